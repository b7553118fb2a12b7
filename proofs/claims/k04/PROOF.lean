import PyProof.Rows.All
import Wide.All
import OpenK.AllK
import Wide.FinOn
import KE.KOpsOwn
import HandS.ForMost
import HandS.ForExc
import HandS.Property
import HandS.ClsMeth
import KE.KCallOwn
import HandS.HeadNt
import HandS.Lambda
import HandS.ExcInit
import HandS.ExcField
import HandS.Wide
import HandS.Style
import HandS.IsInst
import HandS.Text
import HandS.Defaults
import HandS.TupSets
import HandS.SetBool
import HandS.Strs
import HandS.TryMany
import HandS.ExcIs
import HandS.Nested
import HandS.Gcd
import HandS.Star
import HandS.MethStar
import HandS.Conv
import KE.KExcIs
import HandS.SortInts
import PyProof.TupleOfSeq
import HandS.ExcValue
import HandS.Walk
import HandS.Codes
import OpenK.KMeth
import PyProof.InstEq
import HandS.Zip
import PyProof.EqKinds
import HandS.TupAny
import HandS.GenBody
import HandS.GenList
import HandS.ReCall
import PyProof.ReprNest
import PyProof.ReprDict
import PyProof.ReprReads
import PyProof.ReprHeadsEmpty
import PyProof.StrHeap
import PyProof.CallFns
import HandS.List
import HandS.Dict
import HandS.HotCalls
import HandS.Hot
import HandS.Iter
import PyProof.StrLawsRepr
import PyProof.Rows.StrCase
import HandS.CallLocal
import HandS.Head0
import HandS.Head1
import HandS.Head2
import HandS.Head3
import HandS.HeadHook1
import HandS.HeadHook2
import HandS.HeadHook4
import HandS.EndTab
import KE.KStateDown
import Lean
import PySem.Challenge.RW_lastgiver_k04_sums_at_every_done_set
set_option Elab.async false
set_option linter.all false
set_option maxRecDepth 100000
set_option maxHeartbeats 0
namespace K1
end K1
namespace K18
end K18
namespace K4
end K4
namespace K18R
end K18R
namespace K2
end K2
namespace K5
end K5
namespace K18
open PySem PySem.Spec PyProof.Rows L2 LamX K1
def top (i : Nat) : Stmt := PySem.Challenge.pw_lastgiver_k04_sums_at_every_done_set.main.body.getD i (.Pass ⟨0, 0, 0, 0⟩)
end K18
namespace K18
open PySem PySem.Spec PyProof.Rows L2 LamX K1
abbrev sIsInt : Stmt := top 21
end K18
namespace K18
open PySem PySem.Spec PyProof.Rows L2 LamX K1
abbrev sWithin : Stmt := top 22
end K18
namespace K18
open PySem PySem.Spec PyProof.Rows L2 LamX K1
abbrev sName : Stmt := top 23
end K18
namespace K18
open PySem PySem.Spec PyProof.Rows L2 LamX K1
abbrev sListed : Stmt := top 24
end K18
namespace K18
open PySem PySem.Spec PyProof.Rows L2 LamX K1
abbrev sAreInts : Stmt := top 25
end K18
namespace K18
open PySem PySem.Spec PyProof.Rows L2 LamX K1
abbrev sAreNames : Stmt := top 26
end K18
namespace K18
open PySem PySem.Spec PyProof.Rows L2 LamX K1
abbrev sNoneTwice : Stmt := top 27
end K18
namespace K18
open PySem PySem.Spec PyProof.Rows L2 LamX K1
abbrev sHands : Stmt := top 28
end K18
namespace K18
open PySem PySem.Spec PyProof.Rows L2 LamX K1
abbrev sDone : Stmt := top 29
end K18
namespace K18
open PySem PySem.Spec PyProof.Rows L2 LamX K1
abbrev sHand : Stmt := top 30
end K18
namespace K18
open PySem PySem.Spec PyProof.Rows L2 LamX K1
abbrev sRight : Stmt := top 37
end K18
namespace K18
open PySem PySem.Spec PyProof.Rows L2 LamX K1
abbrev sIsRatio : Stmt := top 38
end K18
namespace K18
open PySem PySem.Spec PyProof.Rows L2 LamX K1
abbrev sIsAmount : Stmt := top 39
end K18
namespace K18
open PySem PySem.Spec PyProof.Rows L2 LamX K1
abbrev sAdded : Stmt := top 40
end K18
namespace K18
open PySem PySem.Spec PyProof.Rows L2 LamX K1
abbrev sAreRatios : Stmt := top 41
end K18
namespace K18
open PySem PySem.Spec PyProof.Rows L2 LamX K1
abbrev sSetsIn : Stmt := top 45
end K18
namespace K18
open PySem PySem.Spec PyProof.Rows L2 LamX K1
abbrev sNextNo : Stmt := top 46
end K18
namespace K18
open PySem PySem.Spec PyProof.Rows L2 LamX K1
abbrev sCheckSwap : Stmt := top 50
end K18
namespace K18
open PySem PySem.Spec PyProof.Rows L2 LamX K1
abbrev sStranger : Stmt := top 51
end K18
namespace K18
open PySem PySem.Spec PyProof.Rows L2 LamX K1
abbrev sParties : Stmt := top 52
end K18
namespace K18
open PySem PySem.Spec PyProof.Rows L2 LamX K1
abbrev sNetOf : Stmt := top 53
end K18
namespace K18
open PySem PySem.Spec PyProof.Rows L2 LamX K1
abbrev sDoneSet : Stmt := top 61
end K18
namespace K18
open PySem PySem.Spec PyProof.Rows L2 LamX K1
abbrev sRest : Stmt := top 62
end K18
namespace K18
open PySem PySem.Spec PyProof.Rows L2 LamX K1
abbrev sSums : Stmt := top 63
end K18
namespace K18
open PySem PySem.Spec PyProof.Rows L2 LamX K1
abbrev sSumOf : Stmt := top 64
end K18
namespace K18
open PySem PySem.Spec PyProof.Rows L2 LamX K1
abbrev sGave : Stmt := top 65
end K18
namespace K18
open PySem PySem.Spec PyProof.Rows L2 LamX K1
abbrev sTook : Stmt := top 66
end K18
namespace K18
open PySem PySem.Spec PyProof.Rows L2 LamX K1
abbrev sAlong : Stmt := top 67
end K18
namespace K18
open PySem PySem.Spec PyProof.Rows L2 LamX K1
abbrev sDoneSets : Stmt := top 68
end K18
namespace K18
open PySem PySem.Spec PyProof.Rows L2 LamX K1
abbrev sEffects : Stmt := top 69
end K18
namespace K18
open PySem PySem.Spec PyProof.Rows L2 LamX K1
abbrev sLineB : Stmt := top 70
end K18
namespace K18
open PySem PySem.Spec PyProof.Rows L2 LamX K1
abbrev sPen : Stmt := top 72
end K18
namespace K18
open PySem PySem.Spec PyProof.Rows L2 LamX K1
abbrev sDraw : Stmt := top 73
end K18
namespace K18
open PySem PySem.Spec PyProof.Rows L2 LamX K1
abbrev sPick : Stmt := top 74
end K18
namespace K18
open PySem PySem.Spec PyProof.Rows L2 LamX K1
abbrev sNames : Stmt := top 75
end K18
namespace K18
open PySem PySem.Spec PyProof.Rows L2 LamX K1
abbrev sRows : Stmt := top 76
end K18
namespace K18
open PySem PySem.Spec PyProof.Rows L2 LamX K1
abbrev sWorth : Stmt := top 77
end K18
namespace K18
open PySem PySem.Spec PyProof.Rows L2 LamX K1
abbrev sHandsL : Stmt := top 78
end K18
namespace K18
open PySem PySem.Spec PyProof.Rows L2 LamX K1
abbrev sLine : Stmt := top 79
end K18
namespace K18
open PySem PySem.Spec PyProof.Rows L2 LamX K1
abbrev sIs : Stmt := top 80
end K18
namespace K18
open PySem PySem.Spec PyProof.Rows L2 LamX K1
abbrev sIsLine : Stmt := top 81
end K18
namespace K18
open PySem PySem.Spec PyProof.Rows L2 LamX K1
abbrev sAllSets : Stmt := top 82
end K18
namespace K18
open PySem PySem.Spec PyProof.Rows L2 LamX K1
abbrev sTurned : Stmt := top 83
end K18
namespace K18
open PySem PySem.Spec PyProof.Rows L2 LamX K1
abbrev sSetRight : Stmt := top 84
end K18
namespace K18
open PySem PySem.Spec PyProof.Rows L2 LamX K1
abbrev sAlongRight : Stmt := top 85
end K18
namespace K18
open PySem PySem.Spec PyProof.Rows L2 LamX K1
abbrev sHeard : Stmt := top 86
end K18
namespace K18
open PySem PySem.Spec PyProof.Rows L2 LamX K1
abbrev sRefused : Stmt := top 87
end K18
namespace K18
open PySem PySem.Spec PyProof.Rows L2 LamX K1
abbrev sTwelve : Stmt := top 88
end K18
namespace K18
open PySem PySem.Spec PyProof.Rows L2 LamX K1
abbrev sLaw : Stmt := top 89
end K18
namespace K18
open PySem PySem.Spec PyProof.Rows L2 LamX K1
abbrev sRInit : Stmt := inClass (top 36) 0
end K18
namespace K18
open PySem PySem.Spec PyProof.Rows L2 LamX K1
abbrev sRSign : Stmt := inClass (top 36) 1
end K18
namespace K18
open PySem PySem.Spec PyProof.Rows L2 LamX K1
abbrev sRAdd : Stmt := inClass (top 36) 3
end K18
namespace K18
open PySem PySem.Spec PyProof.Rows L2 LamX K1
abbrev sRNeg : Stmt := inClass (top 36) 6
end K18
namespace K18
open PySem PySem.Spec PyProof.Rows L2 LamX K1
abbrev sREq : Stmt := inClass (top 36) 9
end K18
namespace K18
open PySem PySem.Spec PyProof.Rows L2 LamX K1
abbrev sROf : Stmt := inClass (top 36) 16
end K18
namespace K18
open PySem PySem.Spec PyProof.Rows L2 LamX K1
abbrev sHInit : Stmt := inClass (top 48) 0
end K18
namespace K18
open PySem PySem.Spec PyProof.Rows L2 LamX K1
abbrev sHEff : Stmt := inClass (top 48) 2
end K18
namespace K18
open PySem PySem.Spec PyProof.Rows L2 LamX K1
abbrev sSInit : Stmt := inClass (top 49) 2
end K18
namespace K18
open PySem PySem.Spec PyProof.Rows L2 LamX K1
abbrev sSEven : Stmt := inClass (top 49) 3
end K18
namespace K18
open PySem PySem.Spec PyProof.Rows L2 LamX K1
abbrev sSGain : Stmt := inClass (top 49) 4
end K18
namespace K18
open PySem PySem.Spec PyProof.Rows L2 LamX K1
abbrev sSPriced : Stmt := inClass (top 49) 5
end K18
namespace K18
open PySem PySem.Spec PyProof.Rows L2 LamX K1
abbrev sSNet : Stmt := inClass (top 49) 6
end K18
namespace K18
open PySem PySem.Spec PyProof.Rows L2 LamX K1
abbrev sSLen : Stmt := inClass (top 49) 7
end K18
namespace K18
open PySem PySem.Spec PyProof.Rows L2 LamX K1
abbrev sSItem : Stmt := inClass (top 49) 9
end K18
namespace K18
open PySem PySem.Spec PyProof.Rows L2 LamX K1
abbrev sIni (k : Nat) : Stmt := inClass (top k) 0
end K18
namespace K5
open PySem PySem.Spec PyProof.Rows L2 LamX K1 K18
def oddT : List String := ["NoneType", "list", "str", "int", "tuple", "bool"]
end K5
namespace K5
open PySem PySem.Spec PyProof.Rows L2 LamX K1 K18
abbrev rC (K : PySem.W.Frag) : Addr := He.ga K "Ratio"
end K5
namespace K5
open PySem PySem.Spec PyProof.Rows L2 LamX K1 K18
abbrev sC (K : PySem.W.Frag) : Addr := He.ga K "Swap"
end K5
namespace K5
open PySem PySem.Spec PyProof.Rows L2 LamX K1 K18
/-- the code object of the def with lambdas, its table -/
abbrev cR (K : PySem.W.Frag) : Addr := He.codeOf K ("_law_refused_right", none)
end K5
namespace K5
open PySem PySem.Spec PyProof.Rows L2 LamX K1 K18
abbrev tR (K : PySem.W.Frag) : Addr := He.tabOf K (cR K)
end K5
namespace K5
open PySem PySem.Spec PyProof.Rows L2 LamX K1 K18
/-- the getter of a property -/
def gP (K : PySem.W.Frag) (C : Addr) (m : Str) : Addr := match PySem.W.recIn K (He.ma K C m) "property" with
  | some (.ref f :: _) => f
  | _ => 0
end K5
namespace K5
open PySem PySem.Spec PyProof.Rows L2 LamX K1 K18
def propB (K : PySem.W.Frag) (C : Addr) (m : Str) : Bool := He.eqO (PySem.W.findIn K (.ref C) m) (some (some (.ref (He.ma K C m)))) && (He.eqO (PySem.W.specialIn K (.ref (He.ma K C m)) "__get__") (some (some (.builtin "property.__get__"))) &&
  (decide (PySem.W.takesIn K (.ref (He.ma K C m)) = some true) && (match PySem.W.recIn K (He.ma K C m) "property" with
    | some (.ref _ :: _) => true
    | _ => false)))
end K5
namespace K5
open PySem PySem.Spec PyProof.Rows L2 LamX K1 K18
def ownB (K : PySem.W.Frag) (x m : Str) : Bool := He.eqO (PySem.W.findIn K (.ref (He.ga K x)) m) (some (some (.ref (He.ma K (He.ga K x) m)))) && PySem.W.isFn K (.ref (He.ma K (He.ga K x) m))
end K5
namespace K5
open PySem PySem.Spec PyProof.Rows L2 LamX K1 K18
/-- a constant of the class Swap -/
def cvB (K : PySem.W.Frag) (f : Str) (n : Int) : Bool := match PySem.W.findCls K (.ref (sC K)) (.type "type") f with
  | some (.val (.int j _)) => decide (j = n)
  | _ => false
end K5
namespace K5
open PySem PySem.Spec PyProof.Rows L2 LamX K1 K18
/-- all that one class is asked for -/
def clsB (K : PySem.W.Frag) (x : Str) : Bool := (He.Fa.cls x).ok K && ((He.Fa.mkr x).ok K && (He.eqO (PySem.W.findIn K (.ref (He.ga K x)) "__class__") (some (some (.builtin "object.__class__"))) && (decide (PySem.W.mroIn K (He.ga K x) (.type "object") = some true) && (decide (PySem.W.kitOne K (.ref (He.ga K x)) (.ref (He.ga K x)) = some true) &&
  (PySem.W.notFirst K (He.ga K x) (.ref (He.ga K x)) && (He.eqO (PySem.W.findIn K (.ref (He.ga K x)) "__ne__") (some (some (.builtin "object.__ne__"))) && decide (PySem.W.subIn K (.ref (He.ga K x)) (.type "object") = some true)))))))
end K5
namespace K5
open PySem PySem.Spec PyProof.Rows L2 LamX K1 K18
def freeNames : List Str := ["abs", "int", "len", "bool", "repr", "isinstance", "range", "all", "list", "tuple", "set", "sorted", "min", "max", "zip", "iter", "str", "sum", "enumerate"]
end K5
namespace K5
open PySem PySem.Spec PyProof.Rows L2 LamX K1 K18
def gloNames : List Str := (["LastError", "Ratio", "HandOver", "Swap", "BadSwap", "BadDone", "NoHand", "Twice", "NoStranger", "TooMany", "Unlike", "is_integer", "is_within", "is_listed", "are_integers", "is_name", "are_names", "check_none_twice", "hands_told", "done_told"] : List Str) ++ ((["check_hand", "_right", "is_ratio", "is_amount", "_are_ratios", "added", "_check_parties", "_net_of", "check_swap", "check_stranger", "sets_in_order", "_next_number", "done_set", "rest", "sums", "sum_of", "gave", "took", "along", "done_sets"] : List Str) ++ (["_effects_on", "_line_behind", "_law_pen", "_law_draw", "_law_pick", "_law_names", "_law_rows", "_law_worth", "_law_hands", "_law_line", "_law_is", "_law_is_line", "_law_all_sets", "_law_turned", "_law_set_right", "_law_along_right", "_law_heard", "_law_refused_right", "_law_twelve_right", "law"] : List Str))
end K5
namespace K5
open PySem PySem.Spec PyProof.Rows L2 LamX K1 K18
def stopNames : List Str := ["BadSwap", "BadDone", "NoHand", "Twice", "TooMany"]
end K5
namespace K5
open PySem PySem.Spec PyProof.Rows L2 LamX K1 K18
def ownPairs : List (Str × Str) := [("Ratio", "__add__"), ("Ratio", "__neg__"), ("Ratio", "__eq__"), ("Swap", "__len__"), ("Swap", "__getitem__")]
end K5
namespace K5
open PySem PySem.Spec PyProof.Rows L2 LamX K1 K18
def ktPairs : List (Str × Str × Bool) := [("BadSwap", "BadSwap", true), ("BadDone", "BadSwap", false), ("BadDone", "BadDone", true), ("NoHand", "BadSwap", false), ("NoHand", "BadDone", false), ("NoHand", "NoHand", true), ("Twice", "BadSwap", false), ("Twice", "BadDone", false), ("Twice", "NoHand", false), ("Twice", "Twice", true), ("NoStranger", "BadSwap", false), ("NoStranger", "BadDone", false), ("NoStranger", "NoHand", false), ("NoStranger", "Twice", false), ("NoStranger", "NoStranger", true), ("TooMany", "BadSwap", false), ("TooMany", "BadDone", false), ("TooMany", "NoHand", false), ("TooMany", "Twice", false), ("TooMany", "NoStranger", false), ("TooMany", "TooMany", true)]
end K5
namespace K5
open PySem PySem.Spec PyProof.Rows L2 LamX K1 K18
def mroB (C : Addr) : List Value → Bool
  | .ref c :: bm => decide (c = C) && PySem.HandSPX.refsVE bm
  | _ => false
end K5
namespace K5
open PySem PySem.Spec PyProof.Rows L2 LamX K1 K18
/-- an error class: its object, its mro -/
def oexB (K : PySem.W.Frag) (C : Addr) : Bool := match K.lookup C with
  | some ⟨.type t, _, .cls cd, sl⟩ => t == "type" && ((match sl.toList with
    | [_, _, _, _, some (.builtin n), _] => n == "ValueError.__new__"
    | _ => false) && (!cd.hasDel && (cd.hasDict && mroB C cd.mro)))
  | _ => false
end K5
namespace K5
open PySem PySem.Spec PyProof.Rows L2 LamX K1 K18
/-- all that one error class is asked for -/
def errB (K : PySem.W.Frag) (x : Str) (fs : List Str) : Bool := oexB K (He.ga K x) && (He.eqO (PySem.W.findIn K (.ref (He.ga K x)) "__setattr__") (some (some (.builtin "object.__setattr__"))) && (decide (PySem.W.typeIn K (.ref (He.ga K x)) = some (.type "type")) && (PySem.W.keepIn K (.ref (He.ga K x)) && (xfB K (He.ga K x) &&
  (He.eqO (PySem.W.findIn K (.ref (He.ga K x)) "__init__") (some (some (.ref (He.ma K (He.ga K x) "__init__")))) && (decide (PySem.W.typeIn K (.ref (He.ma K (He.ga K x) "__init__")) = some (.type "function")) && (He.eqO (PySem.W.findIn K (.ref (He.ga K x)) "__class__") (some (some (.builtin "object.__class__"))) &&
  (decide (PySem.W.mroIn K (He.ga K x) (.type "object") = some true) && (decide (PySem.W.exmOne K (.ref (He.ga K x)) (.ref (He.ga K "LastError")) = some true) && fs.all fun f => He.eqO (PySem.W.findIn K (.ref (He.ga K x)) f) (some none))))))))))
end K5
namespace K5
open PySem PySem.Spec PyProof.Rows L2 LamX K1 K18
def factB0 (K : PySem.W.Frag) : Bool :=
  freeNames.all (fun x => He.eqO (PySem.W.nsIn K mainGlobals x) (some none)) && (He.eqO (PySem.W.nsIn K mainGlobals "gcd") (some (some (.builtin "math.gcd"))) && (gloNames.all (fun x => He.eqO (PySem.W.nsIn K mainGlobals x) (some (some (.ref (He.ga K x))))) && ((He.Fa.str "DIGITS" "0123456789").ok K && ((He.Fa.str "LETTERS" "abcdefghijklmnopqrstuvwxyz").ok K && ((He.Fa.int "MOST_SIGNS" 12).ok K && ((He.Fa.int "MOST_HANDS" 12).ok K && (He.eqO (PySem.W.specialIn K (.builtin "object.__class__") "__get__") (some (some (.builtin "getset_descriptor.__get__"))) && (decide (PySem.W.takesIn K (.builtin "object.__class__") = some true)))))))))
end K5
namespace K5
open PySem PySem.Spec PyProof.Rows L2 LamX K1 K18
def factB1 (K : PySem.W.Frag) : Bool :=
  clsB K "Ratio" && (clsB K "HandOver" && (clsB K "Swap" && ((He.Fa.noat "Ratio" "top").ok K && ((He.Fa.noat "Ratio" "bottom").ok K && ((He.Fa.noat "HandOver" "giver").ok K && ((He.Fa.noat "HandOver" "taker").ok K && ((He.Fa.noat "HandOver" "cost").ok K && ((He.Fa.noat "HandOver" "gain").ok K))))))))
end K5
namespace K5
open PySem PySem.Spec PyProof.Rows L2 LamX K1 K18
def factB2 (K : PySem.W.Frag) : Bool :=
  (He.Fa.noat "Swap" "strangers").ok K && ((He.Fa.noat "Swap" "hands").ok K && ((He.Fa.noat "Swap" "nets").ok K && (decide (PySem.W.kitOne K (.ref (rC K)) (.type "int") = some false) && (decide (PySem.W.kitOne K (.type "int") (.ref (rC K)) = some false) && (ownPairs.all (fun p => ownB K p.1 p.2) && ((He.Fa.meth "HandOver" "effect").ok K && ((He.Fa.meth "Swap" "net").ok K && (stopNames.all (fun x => decide (PySem.W.subIn K (.ref (He.ga K x)) (.type "StopIteration") = some false))))))))))
end K5
namespace K5
open PySem PySem.Spec PyProof.Rows L2 LamX K1 K18
def factB3 (K : PySem.W.Frag) : Bool :=
  PySem.W.selfFirst K (rC K) && (He.eqO (PySem.W.findIn K (.ref (rC K)) (dunderR Operator.Add.info.2)) (some none) && (propB K (rC K) "sign" && ((["is_even", "is_gainful", "is_even_priced"] : List Str).all (fun m => propB K (sC K) m) && (PySem.W.readsIn K (rC K) (.type "type") && (He.eqO (PySem.W.specialIn K (.ref (rC K)) "__getattribute__") (some (some (.builtin "type.__getattribute__"))) && (He5.wrapB K (rC K) "staticmethod" "staticmethod.__get__" "of" && (PySem.W.readsIn K (sC K) (.type "type") && (He.eqO (PySem.W.specialIn K (.ref (sC K)) "__getattribute__") (some (some (.builtin "type.__getattribute__")))))))))))
end K5
namespace K5
open PySem PySem.Spec PyProof.Rows L2 LamX K1 K18
def factB4 (K : PySem.W.Frag) : Bool :=
  cvB K "MOST_STRANGERS" 6 && (cvB K "MOST_HANDS" 40 && (PySem.W.fnIn K (He.ma K (sC K) "__getitem__") && (oddT.all (fun t => decide (PySem.W.kitOne K (.type t) (.ref (sC K)) = some false)) && (errB K "BadSwap" ["part"] && (errB K "BadDone" ["part"] && (errB K "NoHand" ["number"] && (errB K "Twice" ["value"] && (errB K "NoStranger" ["name"]))))))))
end K5
namespace K5
open PySem PySem.Spec PyProof.Rows L2 LamX K1 K18
def factB5 (K : PySem.W.Frag) : Bool :=
  errB K "TooMany" ["what", "most"] && (errB K "Unlike" ["what"] && (ktPairs.all (fun p => decide (PySem.W.kitOne K (.ref (He.ga K p.1)) (.ref (He.ga K p.2.1)) = some p.2.2))))
end K5
namespace K5
open PySem PySem.Spec PyProof.Rows L2 LamX K1 K18
def mkA (a : PySem.W.Frag → Addr) (name qual : Str) (st : Stmt) (dfl : List He.Dv := []) : He5.DefA := { at_ := a, name := name, qual := qual, params := defArgs st, body := defBody st, scope := defScope st, dfl := dfl }
end K5
namespace K5
open PySem PySem.Spec PyProof.Rows L2 LamX K1 K18
def topA (x : Str) (st : Stmt) : He5.DefA := mkA (fun K => He.ga K x) x x st
end K5
namespace K5
open PySem PySem.Spec PyProof.Rows L2 LamX K1 K18
def fns : List He5.DefA := [mkA (fun K => He.ma K (He.ga K "BadSwap") "__init__") "__init__" "BadSwap.__init__" (sIni 6),
  mkA (fun K => He.ma K (He.ga K "BadDone") "__init__") "__init__" "BadDone.__init__" (sIni 7),
  mkA (fun K => He.ma K (He.ga K "NoHand") "__init__") "__init__" "NoHand.__init__" (sIni 11),
  mkA (fun K => He.ma K (He.ga K "Twice") "__init__") "__init__" "Twice.__init__" (sIni 12),
  mkA (fun K => He.ma K (He.ga K "NoStranger") "__init__") "__init__" "NoStranger.__init__" (sIni 10),
  mkA (fun K => He.ma K (He.ga K "TooMany") "__init__") "__init__" "TooMany.__init__" (sIni 14),
  mkA (fun K => He.ma K (He.ga K "Unlike") "__init__") "__init__" "Unlike.__init__" (sIni 13),
  mkA (fun K => gP K (rC K) "sign") "sign" "Ratio.sign" sRSign,
  mkA (fun K => gP K (sC K) "is_even") "is_even" "Swap.is_even" sSEven,
  mkA (fun K => gP K (sC K) "is_gainful") "is_gainful" "Swap.is_gainful" sSGain,
  mkA (fun K => gP K (sC K) "is_even_priced") "is_even_priced" "Swap.is_even_priced" sSPriced,
  mkA (fun K => He5.wf K (rC K) "staticmethod" "of") "of" "Ratio.of" sROf,
  mkA (fun K => He.ma K (He.ga K "Ratio") "__init__") "__init__" "Ratio.__init__" sRInit [.int 1],
  mkA (fun K => He.ma K (He.ga K "Ratio") "__add__") "__add__" "Ratio.__add__" sRAdd,
  mkA (fun K => He.ma K (He.ga K "Ratio") "__neg__") "__neg__" "Ratio.__neg__" sRNeg,
  mkA (fun K => He.ma K (He.ga K "Ratio") "__eq__") "__eq__" "Ratio.__eq__" sREq,
  mkA (fun K => He.ma K (He.ga K "HandOver") "__init__") "__init__" "HandOver.__init__" sHInit,
  mkA (fun K => He.ma K (He.ga K "HandOver") "effect") "effect" "HandOver.effect" sHEff,
  mkA (fun K => He.ma K (He.ga K "Swap") "__init__") "__init__" "Swap.__init__" sSInit,
  mkA (fun K => He.ma K (He.ga K "Swap") "__len__") "__len__" "Swap.__len__" sSLen,
  mkA (fun K => He.ma K (He.ga K "Swap") "__getitem__") "__getitem__" "Swap.__getitem__" sSItem,
  mkA (fun K => He.ma K (He.ga K "Swap") "net") "net" "Swap.net" sSNet,
  topA "is_integer" sIsInt,
  topA "is_within" sWithin,
  topA "is_listed" sListed,
  topA "are_integers" sAreInts,
  topA "is_name" sName,
  topA "are_names" sAreNames,
  topA "check_none_twice" sNoneTwice,
  topA "hands_told" sHands,
  topA "done_told" sDone,
  topA "check_hand" sHand,
  topA "_right" sRight,
  topA "is_ratio" sIsRatio,
  topA "is_amount" sIsAmount,
  topA "_are_ratios" sAreRatios,
  topA "added" sAdded,
  topA "_check_parties" sParties,
  topA "_net_of" sNetOf,
  topA "check_swap" sCheckSwap,
  topA "check_stranger" sStranger,
  topA "sets_in_order" sSetsIn,
  topA "_next_number" sNextNo,
  topA "done_set" sDoneSet,
  topA "rest" sRest,
  topA "sums" sSums,
  topA "sum_of" sSumOf,
  topA "gave" sGave,
  topA "took" sTook,
  topA "along" sAlong,
  topA "done_sets" sDoneSets,
  topA "_effects_on" sEffects,
  topA "_line_behind" sLineB,
  topA "_law_pen" sPen,
  topA "_law_draw" sDraw,
  topA "_law_pick" sPick,
  topA "_law_names" sNames,
  topA "_law_rows" sRows,
  topA "_law_worth" sWorth,
  topA "_law_hands" sHandsL,
  topA "_law_line" sLine,
  topA "_law_is" sIs,
  topA "_law_is_line" sIsLine,
  topA "_law_all_sets" sAllSets,
  topA "_law_turned" sTurned,
  topA "_law_set_right" sSetRight,
  topA "_law_along_right" sAlongRight,
  topA "_law_heard" sHeard,
  topA "_law_refused_right" sRefused,
  topA "_law_twelve_right" sTwelve,
  topA "law" sLaw]
end K5
namespace K5
open PySem PySem.Spec PyProof.Rows L2 LamX K1 K18
def loose0 : List PySem.Str := ["_wall", "LastError", "BadRatio", "BadHandOver", "BadSwap", "BadDone", "BadNumber", "Missing", "NoStranger", "NoHand", "Twice", "Unlike", "TooMany", "BadText", "LETTERS", "DIGITS", "MOST_SIGNS", "MOST_DIGITS", "is_integer", "is_within"]
end K5
namespace K5
open PySem PySem.Spec PyProof.Rows L2 LamX K1 K18
def loose1 : List PySem.Str := ["is_name", "is_listed", "are_integers", "are_names", "check_none_twice", "hands_told", "done_told", "check_hand", "words_of", "word_at", "check_end", "integer_in", "Ratio", "_right", "is_ratio", "is_amount", "added", "_are_ratios", "ratio_in", "amount_at"]
end K5
namespace K5
open PySem PySem.Spec PyProof.Rows L2 LamX K1 K18
def loose2 : List PySem.Str := ["sets_in_order", "_next_number", "HandOver", "Swap", "check_swap", "check_stranger", "_check_parties", "_net_of", "_scaled_hand", "_party_at", "_hand_at", "_strangers_at_start", "swap_at_start", "MOST_HANDS", "done_set", "rest", "sums", "sum_of", "gave", "took"]
end K5
namespace K5
open PySem PySem.Spec PyProof.Rows L2 LamX K1 K18
def loose3 : List PySem.Str := ["along", "done_sets", "_effects_on", "_line_behind", "_law_pen", "_law_draw", "_law_pick", "_law_names", "_law_rows", "_law_worth", "_law_hands", "_law_line", "_law_is", "_law_is_line", "_law_all_sets", "_law_turned", "_law_set_right", "_law_along_right", "_law_heard", "_law_refused_right", "_law_twelve_right"]
end K5
namespace K5
open PySem PySem.Spec PyProof.Rows L2 LamX K1 K18
def loose : List PySem.Str := loose0 ++ (loose1 ++ (loose2 ++ loose3))
end K5
namespace K5
open PySem PySem.Spec PyProof.Rows L2 LamX K1 K18
abbrev RR : PySem.W.OpenRow := PySem.W.OpenLaw.row PySem.Challenge.rw_lastgiver_k04_sums_at_every_done_set
end K5
namespace K5
open PySem PySem.Spec PyProof.Rows L2 LamX K1 K18
noncomputable abbrev wf (w : World) : Option (Shared × PySem.W.SharedT) := HandSHeadRun.wholeF (fun p => HandSHeadRun.stepQ (HandSHeadRun.denQ HandSHeadRun.tabQ) p w) HandSHeadRun.fenceQ 40000 RR.prog
end K5
namespace K5
open PySem PySem.Spec PyProof.Rows L2 LamX K1 K18
abbrev sq (s : Shared) : Bool := PySem.W.xlAt (PySem.W.view RR.prog [0, 89]) [] s && PySem.W.recOk RR.toRowW.records s
end K5
namespace K5
open PySem PySem.Spec PyProof.Rows L2 LamX K1 K18
/-- the addresses that are looked at -/
def adl : List Addr := [3, 6, 4, 49, 59, 79, 98, 117, 136, 155, 174, 193, 212, 231, 250, 269, 288, 297, 304, 309, 316, 321, 326, 333, 340, 347, 354, 361, 368, 375, 380, 518, 529, 536, 543, 550, 555, 562, 569, 574, 581, 636, 759, 770, 777, 784, 789, 796, 803, 810, 817, 824, 831, 836, 841, 848, 853, 858, 863, 870, 875, 880, 885, 892, 899, 904, 911, 918, 925, 932, 939, 944, 949, 956, 961, 966, 973, 980, 985, 990, 0, 48, 58, 78, 97, 116, 135, 154, 173, 192, 211, 230, 249, 268, 287, 296, 303, 308, 315, 320, 325, 332, 339, 346, 353, 360, 367, 374, 379, 517, 528, 535, 542, 549, 554, 561, 568, 573, 580, 635, 758, 769, 776, 783, 788, 795, 802, 809, 816, 823, 830, 835, 840, 847, 852, 857, 862, 869, 874, 879, 884, 891, 898, 903, 910, 917, 924, 931, 938, 943, 948, 955, 960, 965, 972, 979, 984, 989, 43, 44, 45, 46, 47, 57, 60, 76, 77, 95, 96, 114, 115, 133, 134, 152, 153, 171, 172, 190, 191, 209, 210, 228, 229, 247, 248, 266, 267, 285, 286, 291, 292, 293, 294, 295, 298, 299, 300, 301, 302, 305, 306, 307, 310, 311, 312, 313, 314, 317, 318, 319, 322, 323, 324, 327, 328, 329, 330, 331, 334, 335, 336, 337, 338, 341, 342, 343, 344, 345, 348, 349, 350, 351, 352, 355, 356, 357, 358, 359, 362, 363, 364, 365, 366, 369, 370, 371, 372, 373, 376, 377, 378, 395, 403, 411, 418, 425, 432, 439, 446, 453, 460, 467, 474, 481, 488, 495, 504, 514, 516, 519, 520, 523, 524, 525, 526, 527, 530, 531, 532, 533, 534, 537, 538, 539, 540, 541, 544, 545, 546, 547, 548, 551, 552, 553, 556, 557, 558, 559, 560, 563, 564, 565, 566, 567, 570, 571, 572, 575, 576, 577, 578, 579, 595, 602, 609, 616, 623, 632, 634, 637, 638, 652, 658, 664, 670, 677, 684, 691, 698, 705, 712, 717, 724, 729, 734, 745, 755, 757, 760, 761, 764, 765, 766, 767, 768, 771, 772, 773, 774, 775, 778, 779, 780, 781, 782, 785, 786, 787, 790, 791, 792, 793, 794, 797, 798, 799, 800, 801, 804, 805, 806, 807, 808, 811, 812, 813, 814, 815, 818, 819, 820, 821, 822, 825, 826, 827, 828, 829, 832, 833, 834, 837, 838, 839, 842, 843, 844, 845, 846, 849, 850, 851, 854, 855, 856, 859, 860, 861, 864, 865, 866, 867, 868, 871, 872, 873, 876, 877, 878, 881, 882, 883, 886, 887, 888, 889, 890, 893, 894, 895, 896, 897, 900, 901, 902, 905, 906, 907, 908, 909, 912, 913, 914, 915, 916, 919, 920, 921, 922, 923, 926, 927, 928, 929, 930, 933, 934, 935, 936, 937, 940, 941, 942, 945, 946, 947, 950, 951, 952, 953, 954, 957, 958, 959, 962, 963, 964, 967, 968, 969, 970, 971, 974, 975, 976, 977, 978, 981, 982, 983, 986, 987, 988, 75, 94, 113, 132, 151, 170, 189, 208, 227, 246, 265, 284, 394, 388, 402, 410, 417, 424, 431, 438, 445, 452, 459, 466, 473, 480, 487, 494, 502, 503, 512, 513, 594, 601, 608, 615, 622, 630, 631, 651, 657, 663, 669, 676, 683, 690, 697, 704, 711, 716, 723, 728, 733, 743, 744, 753, 754, 70, 71, 72, 73, 74, 89, 90, 91, 92, 93, 108, 109, 110, 111, 112, 127, 128, 129, 130, 131, 146, 147, 148, 149, 150, 165, 166, 167, 168, 169, 184, 185, 186, 187, 188, 203, 204, 205, 206, 207, 222, 223, 224, 225, 226, 241, 242, 243, 244, 245, 260, 261, 262, 263, 264, 279, 280, 281, 282, 283, 389, 390, 391, 392, 393, 401, 409, 412, 413, 414, 415, 416, 419, 420, 421, 422, 423, 426, 427, 428, 429, 430, 433, 434, 435, 436, 437, 440, 441, 442, 443, 444, 447, 448, 449, 450, 451, 454, 455, 456, 457, 458, 461, 462, 463, 464, 465, 468, 469, 470, 471, 472, 475, 476, 477, 478, 479, 482, 483, 484, 485, 486, 489, 490, 491, 492, 493, 501, 505, 511, 515, 589, 590, 591, 592, 593, 596, 597, 598, 599, 600, 603, 604, 605, 606, 607, 610, 611, 612, 613, 614, 617, 618, 619, 620, 621, 629, 633, 648, 649, 650, 656, 662, 668, 671, 672, 673, 674, 675, 678, 679, 680, 681, 682, 685, 686, 687, 688, 689, 692, 693, 694, 695, 696, 699, 700, 701, 702, 703, 706, 707, 708, 709, 710, 713, 714, 715, 718, 719, 720, 721, 722, 725, 726, 727, 730, 731, 732, 742, 735, 736, 746, 752, 756, 2]
end K5
namespace K5
open PySem PySem.Spec PyProof.Rows L2 LamX K1 K18
abbrev oF (s : PySem.W.SharedT) : PySem.W.Frag := He.frT (HandSHeadRun.getT s) adl
end K5
namespace K5
open PySem PySem.Spec PyProof.Rows L2 LamX K1 K18
def factAll (K : PySem.W.Frag) : Bool := factB0 K && (factB1 K && (factB2 K && (factB3 K && (factB4 K && (factB5 K)))))
end K5
namespace K5
open PySem PySem.Spec PyProof.Rows L2 LamX K1 K18
def tab1 (g : Addr → Option Obj) (K : PySem.W.Frag) (c T : Addr) : Bool := PySem.W.codeHdIn K c T && (match g T with
  | some o => He.emptyTab o
  | none => false)
end K5
namespace K5
open PySem PySem.Spec PyProof.Rows L2 LamX K1 K18
def tabE (g : Addr → Option Obj) (K : PySem.W.Frag) : Bool := tab1 g K (cR K) (tR K)
end K5
namespace K5
open PySem PySem.Spec PyProof.Rows L2 LamX K1 K18
theorem runAll (w : World) : (wf w).map (fun x => (HandSHeadRun.looksF RR.prog x.1.heap x.2.abs, HandSHeadRun.seenQ (PySem.W.view RR.prog [0, 89]) loose (importedModules RR.prog.main.body) sq x.2.abs, factAll (oF x.2), He5.obsA [] fns (oF x.2), tabE (HandSHeadRun.getT x.2) (oF x.2))) = some (true, PySem.W.openGood (PySem.W.view RR.prog [0, 89]) loose, true, He5.valA fns, true) := by kernel_rfl
end K5
/-! Operators, abs, truth, == of an own class; a static method: rules over the layer. -/
namespace K1
open PySem PySem.Spec PyProof.Rows L2

section
open PySem.W PySem.Calls
variable {prog : Program} {w : World} {A : Around} {E : Value → Shared → Prop} {s : Shared} {K : Frag} {x C L f : Addr} {h0 : Heap} {m : Str → Option Value} {ox : Obj} {od : Option Obj} {T : String}
/-- o op b, b of a built-in class that a look at the heap tells -/
theorem bin_look {op : Operator} {b : Value} {fo ro rc : Option Value} {Q : Value → Shared → Prop} (F : Fr h0 L s.heap m) (X0 : K.In h0) (I : InstAt s.heap x ox C od) (hb : ∀ h', (∀ a o, s.heap.get? a = some o → h'.get? a = some o) → Looks (model prog w) h' (typeOf b) (.type T))
    (hc : selfFirst K C = true) (hs : findIn K (.ref C) (PySem.dunder op.info.2) = some (some (.ref f))) (hf : isFn K (.ref f) = true) (hr : findIn K (.ref C) (dunderR op.info.2) = some rc) (hp : rc = none ∨ ∃ g : Addr, rc = some (.ref g))
    (t1 : findIn K (.type T) (PySem.dunder op.info.2) = some fo) (t2 : findIn K (.type T) (dunderR op.info.2) = some ro) (ts : subIn K (.type T) (.ref C) = some false)
    (h : wpAny (model prog w) A (call (.ref f) [.ref x, b]) (PySem.W.CmpBack Q) E s) : wpAny (model prog w) A (binaryOp op (.ref x) b) Q E s := by
  have KX := X0.keeps F.keep
  obtain ⟨cd, rest, c1, c2⟩ := ksp_first hc
  rcases e : op.info with ⟨sy, n⟩
  rw [e] at hs hr t1 t2
  dsimp only at hs hr t1 t2
  have done := ksp_try KX I hs hf h
  have hb1 := hb s.heap fun _ _ z => z
  obtain ⟨hh, g, d, tt, os⟩ := s
  have k1 : Looks (model prog w) hh (typeOf (.ref x)) (.ref C) := I.type
  have k2 : Looks (model prog w) hh (typeOf b) (.type T) := hb1
  have k3 : Looks (model prog w) hh (fillsNumberSlot (.ref C) n) true := fills_K KX c1 c2 hs
  obtain ⟨rt, k4⟩ : ∃ rt, Looks (model prog w) hh (fillsNumberSlot (.type T) n) rt := ⟨_, ksp_fillsT KX t1 t2⟩
  have k5 : Looks (model prog w) hh (isSubtype (.type T) (.ref C)) false := looks_subIn KX ts
  have k6 : Looks (model prog w) hh (numberSlotInPython (.ref C) n) true := ksp_inPy KX hs hr hp
  have k7 : Looks (model prog w) hh (numberSlotInPython (.type T) n) false := Looks.of_pure rfl
  have k8 : Looks (model prog w) hh (typeLookup (.type T) (dunderR n)) ro := looks_findIn KX t2
  have ne : (Value.ref C == Value.type T) = false := Bool.eq_false_iff.mpr fun q => by cases beq_iff_eq.mp q
  simp only [binaryOp, e]
  refine wpAny_holding (wpAny_bind ?_)
  unfold binaryOp1
  refine wpAny_bind (k1.at (wpAny_bind (k2.at (wpAny_bind (k3.at ?_)))))
  simp only [ne, Bool.false_eq_true, if_false]
  cases rt <;>
  · ksp_lk
    refine wpAny_mono done (fun r s' z => ?_) fun _ _ q => q
    obtain ⟨v, rfl, hq⟩ := z
    ksp_lk
    exact hq
theorem abs_own {Q : Value → Shared → Prop} (X : K.In s.heap) (I : InstAt s.heap x ox C od) (hs : findIn K (.ref C) "__abs__" = some (some (.ref f))) (hf : isFn K (.ref f) = true)
    (h : wpAny (model prog w) A.in1 (call (.ref f) [.ref x]) Q E s) : wpAny (model prog w) A (call (.builtin "abs") [.ref x]) Q E s := by
  refine call_function_entry kind_abs plain_abs entry_abs (args_abs _) ?_
  unfold Builtin.«abs»
  refine wpAny_bind (m := oneArg "abs" _) (wpAny_pure ?_)
  refine wpAny_bind (m := callSpecial? (.ref x) (Str.ofString "__abs__")) (special_fn X I hs (beq_iff_eq.mp hf) (wpAny_mono h (fun r s' hr => ?_) fun _ _ y => y))
  exact wpAny_pure ⟨_, rfl, hr⟩
end

/-! ### over the layer -/
section
variable {X : Cx} {pins : List (Addr × Obj)} {σ : L2.St} {H : Hp} {s s' : Shared} {Q : VK}
theorem ep_back {u : Value} (h : EP X pins σ Q u s') : PySem.W.CmpBack (EP X pins σ Q) u s' := by
  cases u with
  | notImplemented =>
    obtain ⟨v, H', I, r, q⟩ := h
    exfalso
    cases v <;> first | exact nomatch (r : Value.notImplemented = _) | (have z : ∃ t, Value.notImplemented = _ := r; obtain ⟨t, e⟩ := z; exact nomatch e)
  | _ => exact h
/-- the type of a value, looked up -/
theorem ty_look {M : Model} {x : V} {u t : Value} (I : Inv X pins σ H s) (rx : RelV x u) (ty : TyOf X.K H x t) : PySem.W.Looks M s.heap (typeOf u) t := by
  cases ty with
  | non => cases (show u = Value.none from rx); exact PySem.W.Looks.of_pure rfl
  | bl y => cases (show u = Value.bool y from rx); exact PySem.W.Looks.of_pure rfl
  | int i => obtain ⟨t, q⟩ := (show ∃ t, u = Value.int i t from rx); cases q; exact PySem.W.Looks.of_pure rfl
  | str y => obtain ⟨t, q⟩ := (show ∃ t, u = Value.str y t from rx); cases q; exact PySem.W.Looks.of_pure rfl
  | flt y => obtain ⟨t, q⟩ := (show ∃ t, u = Value.float y t from rx); cases q; exact PySem.W.Looks.of_pure rfl
  | @lst a xs ea =>
    cases (show u = Value.ref a from rx)
    obtain ⟨_, _, n, _, h1⟩ := (show ObjOk X.prog X.w H s.heap a (.lst xs) from I.hok a _ ea)
    exact (PySem.W.Looks.ld (part := none) h1).andThen .now
  | @frz a ob xs ea =>
    cases (show u = Value.ref a from rx)
    obtain ⟨_, _, _, n, _, h1⟩ := (show ObjOk X.prog X.w H s.heap a (.frz ob (.lst xs)) from I.hok a _ ea)
    exact (PySem.W.Looks.ld (part := none) h1).andThen .now
  | @tup a xs ea =>
    cases (show u = Value.ref a from rx)
    obtain ⟨_, _, _, o, h1, h2, _⟩ := (show ObjOk X.prog X.w H s.heap a (.tup xs) from I.hok a _ ea)
    rw [← h2]
    exact (PySem.W.Looks.ld (part := none) h1).andThen .now
  | @dK a kvs ea =>
    cases (show u = Value.ref a from rx)
    obtain ⟨_, _, vs, _, o, es, ep, h1, h2, _⟩ := (show ObjOk X.prog X.w H s.heap a (.dK kvs) from I.hok a _ ea)
    rw [← h2.1]
    exact (PySem.W.Looks.ld (part := none) h1).andThen .now
  | @dT a kvs ea =>
    cases (show u = Value.ref a from rx)
    obtain ⟨_, _, xs, _, o, es, ep, h1, h2, _⟩ := (show ObjOk X.prog X.w H s.heap a (.dT kvs) from I.hok a _ ea)
    rw [← h2.1]
    exact (PySem.W.Looks.ld (part := none) h1).andThen .now
  | @ins a C dx fs ea cl ha hn htk hm =>
    cases (show u = Value.ref a from rx)
    obtain ⟨mA, O, _⟩ := ins_get I.hok ea
    obtain ⟨od, J, _⟩ := O.look
    exact J.type
end

/-- an own operator's def: where it is found -/
structure OwnM (K : PySem.W.Frag) (C : Addr) (nm : Str) (f : Addr) : Prop where
  at_ : PySem.W.findIn K (.ref C) nm = some (some (.ref f))
  fn : PySem.W.isFn K (.ref f) = true
/-- what stands at the right: an instance of the class itself, or a value of a built-in class with these facts -/
def RightO (K : PySem.W.Frag) (C : Addr) (op : Operator) (y : V) (H : Hp) : Prop :=
  (∃ a dx fs, y = .ref a ∧ H a = some (.ins C dx fs)) ∨ ∃ (T : String) (fo ro : Option Value), TyOf K H y (.type T) ∧ PySem.W.findIn K (.type T) (PySem.dunder op.info.2) = some fo ∧ PySem.W.findIn K (.type T) (dunderR op.info.2) = some ro ∧ PySem.W.subIn K (.type T) (.ref C) = some false
/-- x op y: the def's promise at the two -/
def rOwn (K : PySem.W.Frag) (C : Addr) (op : Operator) (sp : Sp) (E : XK) : R2 := fun x y H Q => ∃ a dx fs, x = .ref a ∧ H a = some (.ins C dx fs) ∧ RightO K C op y H ∧ sp [x, y] H Q E
section
variable {X : Cx} {CX : CXT} {k : Nat} {C f : Addr} {fd : FuncData} {ps : List Str} {sp : Sp} {E : XK}
theorem op_own {op : Operator} (M : OwnM X.K C (PySem.dunder op.info.2) f) (c1 : PySem.W.selfFirst X.K C = true) (c2 : PySem.W.findIn X.K (.ref C) (dunderR op.info.2) = some none)
    (F : FnOk X.prog X.w X.K X.mg X.base CX k f fd ps sp) (hr : Room k X.A) (hb : Binds X.K fd ps []) (hx : Passes CX X E) : OpR X (binaryOp op) (rOwn X.K C op sp E) := by
  intro pins s σ H x y v u Q I rx ry h
  obtain ⟨a, dx, fs, rfl, ha, hy, hs⟩ := h
  obtain rfl : v = Value.ref a := rx
  obtain ⟨mA, O, _⟩ := ins_get I.hok ha
  obtain ⟨od, J, _⟩ := O.look
  obtain ⟨m, hF⟩ := I.fr
  have run : wpAny (model X.prog X.w) X.A (call (.ref f) [.ref a, u]) (PySem.W.CmpBack (EP X pins σ Q)) X.xe s :=
    thn (run_fn (us := [.ref a, u]) (vs := [.ref a, y]) (dvs := []) F hr hb .nil hx I (.cons rfl (.cons ry .nil)) (by rw [List.append_nil]; exact hs)) fun _ _ z => ep_back z
  rcases hy with ⟨b, dy, gs, rfl, hb'⟩ | ⟨T, fo, ro, ty, t1, t2, t3⟩
  · obtain rfl : u = Value.ref b := ry
    obtain ⟨mB, O', _⟩ := ins_get I.hok hb'
    obtain ⟨od', J', _⟩ := O'.look
    exact PySem.W.binop_K hF I.ok.mod.kin J J'.type c1 M.at_ M.fn run
  · exact bin_look hF I.ok.mod.kin J (fun h' kp => (ty_look I ry ty).keeps kp) c1 M.at_ M.fn c2 (.inl rfl) t1 t2 t3 run
/-- -x -/
theorem un_own (M : OwnM X.K C "__neg__" f) (F : FnOk X.prog X.w X.K X.mg X.base CX k f fd ps sp) (hr : Room k X.A) (hb : Binds X.K fd ps []) (hx : Passes CX X E) :
    UnR X (unaryOp .USub) (fun x H Q => ∃ a dx fs, x = .ref a ∧ H a = some (.ins C dx fs) ∧ sp [x] H Q E) := by
  intro pins s σ H x v Q I rx h
  obtain ⟨a, dx, fs, rfl, ha, hs⟩ := h
  obtain rfl : v = Value.ref a := rx
  obtain ⟨mA, O, _⟩ := ins_get I.hok ha
  obtain ⟨od, J, _⟩ := O.look
  obtain ⟨m, hF⟩ := I.fr
  exact PySem.W.ksp_neg hF I.ok.mod.kin J M.at_ M.fn (run_fn (us := [.ref a]) (vs := [.ref a]) (dvs := []) F hr hb .nil hx I (.cons rfl .nil) (by rw [List.append_nil]; exact hs))
/-- abs(x) -/
theorem call_absO (M : OwnM X.K C "__abs__" f) (F : FnOk X.prog X.w X.K X.mg X.base CX k f fd ps sp) (hr : Room (k + 1) X.A) (hb : Binds X.K fd ps []) (hx : Passes CX X.nox E) :
    CallR X (.builtin "abs") (fun xs H Q => ∃ a dx fs, xs = [.ref a] ∧ H a = some (.ins C dx fs) ∧ sp [.ref a] H Q E) := by
  intro pins s σ H xs us Q I r h
  obtain ⟨a, dx, fs, rfl, ha, hs⟩ := h
  obtain ⟨u, rfl, ru⟩ := vals1 r
  obtain rfl : u = Value.ref a := ru
  obtain ⟨mA, O, _⟩ := ins_get I.hok ha
  obtain ⟨od, J, _⟩ := O.look
  have hl := F.len _ _ _ _ hs
  refine abs_own I.kIn J M.at_ M.fn (wpAny_call (codeAny_mono (F.run X.A.in1 X.stack s H ⟨[.ref a], []⟩ [.ref a] [.ref a] Q E hr.in1 I.env0.in1 (by
    have z := hb s [.ref a] I.kIn (by simpa using hl)
    simpa using z) (.cons rfl .nil) hs) fun r s' hq => ?_))
  cases r with
  | error e => exact False.elim (hx pins σ H s e s' (I.wish _) hq)
  | ok fl =>
    cases fl with
    | ret w => exact I.after hq
    | next => exact False.elim hq
    | brk => exact False.elim hq
    | cont => exact False.elim hq
/-- x as a test, an own __bool__ that tells a truth -/
theorem tru_own (M : OwnM X.K C "__bool__" f) (F : FnOk X.prog X.w X.K X.mg X.base CX k f fd ps sp) (hr : Room k X.A) (hb : Binds X.K fd ps []) (hx : Passes CX X E) :
    TruR X (fun x H Q => ∃ a dx fs, x = .ref a ∧ H a = some (.ins C dx fs) ∧ sp [x] H (fun v H' => ∃ b, v = .bl b ∧ Q b H') E) := by
  intro pins s σ H x v Q I rx h
  obtain ⟨a, dx, fs, rfl, ha, hs⟩ := h
  obtain rfl : v = Value.ref a := rx
  obtain ⟨mA, O, _⟩ := ins_get I.hok ha
  obtain ⟨od, J, _⟩ := O.look
  obtain ⟨m, hF⟩ := I.fr
  refine PySem.W.truthy_K hF I.ok.mod.kin J M.at_ M.fn (thn (run_fn (us := [.ref a]) (vs := [.ref a]) (dvs := []) F hr hb .nil hx I (.cons rfl .nil) (by rw [List.append_nil]; exact hs)) fun u s' z => ?_)
  obtain ⟨w', H', I', rw', b, rfl, q⟩ := z
  obtain rfl : u = Value.bool b := rw'
  exact ⟨H', I', q⟩
end
end K1

namespace K1
open PySem PySem.Spec PyProof.Rows L2

section
open PySem.W PySem.Calls
variable {prog : Program} {w : World} {A : Around} {E : Value → Shared → Prop} {s : Shared} {K : Frag} {x C f : Addr} {ox : Obj} {od : Option Obj}
/-- bool(o), an own __bool__ -/
theorem bool_own {Q : Value → Shared → Prop} {h0 : Heap} {L : Addr} {m : Str → Option Value} (F : Fr h0 L s.heap m) (X0 : K.In h0) (I : InstAt s.heap x ox C od) (hs : findIn K (.ref C) "__bool__" = some (some (.ref f))) (hf : isFn K (.ref f) = true)
    (h : wpAny (model prog w) A.in1.in1 (call (.ref f) [.ref x]) (PySem.W.BoolBack fun b s' => Q (.bool b) s') E s) : wpAny (model prog w) A (call (.type "bool") [.ref x]) Q E s := by
  refine callType_codes (T := "bool") (Bi := Builtin.«object.__init__») (Q₁ := fun r s₁ => ∃ b, r = .bool b ∧ Q r s₁) PySem.F.called_bool (PySem.F.typeCall_bool_1 _) PySem.F.entry_object_init ?_ ?_
  · refine codeAny_of_tree ?_
    show wpAny _ _ (do checkBuiltinCall "bool.__new__" ⟨[.type "bool", .ref x], []⟩; again (.builtin "bool.__new__" ⟨[.type "bool", .ref x], []⟩)) _ _ s
    refine wpAny_bind (wpAny_of_eq (PySem.F.newCall_bool_1 _) (wpAny_pure ⟨plainId_quiet (by decide +kernel) _, codeAny_builtin PySem.F.entry_bool_new ?_⟩))
    rw [Around.under_plainId (by decide +kernel) _]
    unfold Builtin.«bool.__new__»
    have f1 := PySem.F.conv_sub_bool
    have tr : ∀ {P : Bool → Shared → Prop} {E2 : Value → Shared → Prop}, (∀ b s', Q (.bool b) s' → P b s') → (∀ e s', E e s' → E2 e s') → wpAny (model prog w) A.in1.in1 (truthy (.ref x)) P E2 s := fun p e => wpAny_mono (truthy_K F X0 I hs hf h) p e
    clear h hs hf I X0 F
    obtain ⟨hp, g, d, tk, os⟩ := s
    repeat (any_goals (first | assumption | (with_reducible refine tr (fun b s' hb => ?_) (fun e s' he => ?_)) | wp_step))
    all_goals first | exact ⟨_, rfl, hb⟩ | exact he | skip
  · rintro obj s₁ ⟨b, rfl, hq⟩
    exact ⟨rfl, PySem.F.args_object_init_2 _ _, object_init_meets PySem.F.called_bool.init.lookup PySem.F.called_bool.made (by decide) prog w A.in1 _ s₁ ⟨rfl, rfl, hq⟩⟩
end

section
variable {X : Cx} {CX : CXT} {k : Nat} {C f : Addr} {fd : FuncData} {ps : List Str} {sp : Sp} {E : XK}
/-- bool(x) -/
theorem call_boolO (M : OwnM X.K C "__bool__" f) (F : FnOk X.prog X.w X.K X.mg X.base CX k f fd ps sp) (hr : Room (k + 2) X.A) (hb : Binds X.K fd ps []) (hx : Passes CX X.nox E) :
    CallR X (.type "bool") (fun xs H Q => ∃ a dx fs, xs = [.ref a] ∧ H a = some (.ins C dx fs) ∧ sp [.ref a] H (fun v H' => ∃ b, v = .bl b ∧ Q (.bl b) H') E) := by
  intro pins s σ H xs us Q I r h
  obtain ⟨a, dx, fs, rfl, ha, hs⟩ := h
  obtain ⟨u, rfl, ru⟩ := vals1 r
  obtain rfl : u = Value.ref a := ru
  obtain ⟨mA, O, _⟩ := ins_get I.hok ha
  obtain ⟨od, J, _⟩ := O.look
  obtain ⟨m, hF⟩ := I.fr
  have hl := F.len _ _ _ _ hs
  refine bool_own hF I.ok.mod.kin J M.at_ M.fn (wpAny_call (codeAny_mono (F.run X.A.in1.in1 X.stack s H ⟨[.ref a], []⟩ [.ref a] [.ref a] _ E hr.in1.in1 I.env0.in1.in1 (by
    have z := hb s [.ref a] I.kIn (by simpa using hl)
    simpa using z) (.cons rfl .nil) hs) fun r s' hq => ?_))
  cases r with
  | error e => exact False.elim (hx pins σ H s e s' (I.wish _) hq)
  | ok fl =>
    cases fl with
    | ret u =>
      obtain ⟨v, H2, I2, rv, b, rfl, q⟩ := I.after hq
      obtain rfl : u = Value.bool b := rv
      exact ⟨.bl b, H2, I2, rfl, q⟩
    | next => exact False.elim hq
    | brk => exact False.elim hq
    | cont => exact False.elim hq
/-- repr(x) -/
theorem call_reprO (M : OwnM X.K C "__repr__" f) (F : FnOk X.prog X.w X.K X.mg X.base CX k f fd ps sp) (hr : Room (k + 1) X.A) (hb : Binds X.K fd ps []) (hx : Passes CX X.nox E) :
    CallR X (.builtin "repr") (fun xs H Q => ∃ a dx fs, xs = [.ref a] ∧ H a = some (.ins C dx fs) ∧ sp [.ref a] H (fun v H' => ∃ t, v = .str t ∧ Q (.str t) H') E) := by
  intro pins s σ H xs us Q I r h
  obtain ⟨a, dx, fs, rfl, ha, hs⟩ := h
  obtain ⟨u, rfl, ru⟩ := vals1 r
  obtain rfl : u = Value.ref a := ru
  obtain ⟨mA, O, _⟩ := ins_get I.hok ha
  obtain ⟨od, J, _⟩ := O.look
  obtain ⟨m, hF⟩ := I.fr
  have hl := F.len _ _ _ _ hs
  have un := hr.in1.un
  refine PySem.W.repr_K (by omega) hF I.ok.mod.kin J M.at_ M.fn (wpAny_call (codeAny_mono (F.run X.A.in1 X.stack s H ⟨[.ref a], []⟩ [.ref a] [.ref a] _ E hr.in1 I.env0.in1 (by
    have z := hb s [.ref a] I.kIn (by simpa using hl)
    simpa using z) (.cons rfl .nil) hs) fun r s' hq => ?_))
  cases r with
  | error e => exact False.elim (hx pins σ H s e s' (I.wish _) hq)
  | ok fl =>
    cases fl with
    | ret u =>
      obtain ⟨v, H2, I2, rv, t, rfl, q⟩ := I.after hq
      obtain ⟨tk, rfl⟩ := rv
      exact ⟨.str t, H2, I2, ⟨tk, rfl⟩, q⟩
    | next => exact False.elim hq
    | brk => exact False.elim hq
    | cont => exact False.elim hq
/-- str(x) -/
theorem call_strO (M : OwnM X.K C "__str__" f) (F : FnOk X.prog X.w X.K X.mg X.base CX k f fd ps sp) (hr : Room (k + 2) X.A) (hb : Binds X.K fd ps []) (hx : Passes CX X.nox E) :
    CallR X (.type "str") (fun xs H Q => ∃ a dx fs, xs = [.ref a] ∧ H a = some (.ins C dx fs) ∧ sp [.ref a] H (fun v H' => ∃ t, v = .str t ∧ Q (.str t) H') E) := by
  intro pins s σ H xs us Q I r h
  obtain ⟨a, dx, fs, rfl, ha, hs⟩ := h
  obtain ⟨u, rfl, ru⟩ := vals1 r
  obtain rfl : u = Value.ref a := ru
  obtain ⟨mA, O, _⟩ := ins_get I.hok ha
  obtain ⟨od, J, _⟩ := O.look
  have hl := F.len _ _ _ _ hs
  have un := hr.in1.in1.un
  refine PySem.W.kso_call (by omega) I.kIn J M.at_ M.fn (wpAny_call (codeAny_mono (F.run X.A.in1.in1 X.stack s H ⟨[.ref a], []⟩ [.ref a] [.ref a] _ E hr.in1.in1 I.env0.in1.in1 (by
    have z := hb s [.ref a] I.kIn (by simpa using hl)
    simpa using z) (.cons rfl .nil) hs) fun r s' hq => ?_))
  cases r with
  | error e => exact False.elim (hx pins σ H s e s' (I.wish _) hq)
  | ok fl =>
    cases fl with
    | ret u =>
      obtain ⟨v, H2, I2, rv, t, rfl, q⟩ := I.after hq
      obtain ⟨tk, rfl⟩ := rv
      exact ⟨.str t, H2, I2, ⟨tk, rfl⟩, q⟩
    | next => exact False.elim hq
    | brk => exact False.elim hq
    | cont => exact False.elim hq
/-- x == y, x such an instance -/
def rEqO (K : PySem.W.Frag) (C : Addr) (sp : Sp) (E : XK) : R2 := fun x y H Q => ∃ a dx fs t, x = .ref a ∧ H a = some (.ins C dx fs) ∧ TyOf K H y t ∧ PySem.W.notFirst K C t = true ∧ sp [x, y] H Q E
theorem op_eqO (M : OwnM X.K C "__eq__" f) (F : FnOk X.prog X.w X.K X.mg X.base CX k f fd ps sp) (hr : Room k X.A) (hb : Binds X.K fd ps []) (hx : Passes CX X E) : OpR X (compareOp .Eq) (rEqO X.K C sp E) := by
  intro pins s σ H x y v u Q I rx ry h
  obtain ⟨a, dx, fs, t, rfl, ha, ty, hn, hs⟩ := h
  obtain rfl : v = Value.ref a := rx
  obtain ⟨mA, O, _⟩ := ins_get I.hok ha
  obtain ⟨od, J, _⟩ := O.look
  obtain ⟨m, hF⟩ := I.fr
  refine PySem.W.cmp_ofEq (PySem.W.cmp_K (op := .Eq) hr.units0 hF I.ok.mod.kin J (ty_look I ry ty) hn M.at_ M.fn ?_)
  exact thn (run_fn (us := [.ref a, u]) (vs := [.ref a, y]) (dvs := []) F hr hb .nil hx I (.cons rfl (.cons ry .nil)) (by rw [List.append_nil]; exact hs)) fun _ _ z => ep_back z
end

/-! ### C.m(e, ..), a static method -/
structure SMet (K : PySem.W.Frag) (C : Addr) (m : Str) (g : Addr) : Prop where
  p : ∃ p, PySem.W.findCls K (.ref C) (.type "type") m = some (.get (.builtin "staticmethod.__get__") (.ref p) .none (.ref C)) ∧ ∃ rest, PySem.W.recIn K p "staticmethod" = some (.ref g :: rest)
  kp : PySem.W.keepIn K (.ref g) = true
def tSMeth (C : Addr) (sp : Sp) (E : XK) (ta : TE) (t : TA) : TE := fun σ H Q => ta σ H fun x H1 => x = .ref C ∧ t σ H1 fun vs H2 => sp vs H2 Q E
theorem pe_smeth {X : Cx} {CX : CXT} {k : Nat} {C g : Addr} {fd : FuncData} {ps : List Str} {sp : Sp} {E : XK} {o e : Expr} {es : List Expr} {m : Str} {pos apos : Pos} {ta : TE} {t : TA} {pl : Sem Bool}
    (he : PE X o ta) (r : ClX.CRead X.K C (.type "type")) (c : SMet X.K C m g) (F : FnOk X.prog X.w X.K X.mg X.base CX k g fd ps sp) (hr : Room k X.A) (hb : Binds X.K fd ps []) (hx : Passes CX X E) (ha : PA X (e :: es) t)
    (hst : starEach (e :: es) X.env = (false, eval e X.env) :: starEach es X.env := by rfl) (hpl : (backTo pos (starEach es X.env)).any (·.1) = false := by rfl)
    (ht : eval (.Call (.Attribute o m apos) (e :: es) [] pos) X.env = (eval o X.env >>= fun ov => standAt apos.atName >>= fun _ => holding [ov] (getMethod ov m pl) >>= fun fg =>
      callWith pos fg.1 fg.2 (backTo pos (starEach (e :: es) X.env)) (backToKw pos (keywordEach [] X.env))) := by rfl) :
    PE X (.Call (.Attribute o m apos) (e :: es) [] pos) (tSMeth C sp E ta t) := by
  refine ⟨fun pins s σ H Q I h => ?_⟩
  refine PySem.W.methodCall_KW (pl := pl) (thn (he.run pins s σ H _ I h) fun u s1 ⟨x, H1, I1, rx, ex, q⟩ => ?_) ht
  subst ex
  obtain rfl : u = Value.ref C := rx
  obtain ⟨p, c1, rest, c2⟩ := c.p
  refine PySem.W.method_cls I1.kIn r.ga (PySem.W.cls_bind I1.kIn r.rd c1 (wpAny_call (PySem.W.sm_get (s := { s1 with toks := s1.toks + 1 }) I1.kIn c2 (PySem.W.handed_on rfl ?_))))
  have I2 := I1.tok (s1.toks + 1)
  refine PySem.W.callWith_K (first := []) (h₀ := X.base) I.ok.mod.kin c.kp (thn (ha.run pos pins _ σ H1 _ I2 q) fun us s3 ⟨vs, H3, I3, rv, q3⟩ => ⟨I3.kIn, ?_⟩) hst hpl
  exact run_fn F hr hb .nil hx I3 rv (by rw [List.append_nil]; exact q3)
end K1

/-! x(lambda: body, 'text'): a def that is handed a lambda and a text. -/
namespace K1
open PySem PySem.Spec PyProof.Rows L2 LamX

/-- x(), in the def that got the lambda; what is raised is wished for at that def's slots -/
theorem pe_act2 {X : Cx} {pins0 : List (Addr × Obj)} {σ0 : L2.St} {H0 : Hp} {s0 : Shared} {CXg : CXT} {Eg : XK} {Ng : List Str} {qg a : Str} {sg scope : Scope} {g f c2 : Addr} {cdg pm ctv : Value} {params : Arguments} {body : Expr} {k i : Nat} {pn : List (Addr × Obj)} {xe : Value → Shared → Prop} {W : WX}
    {tb : XK → TE} {p1 p2 : Pos} (I0 : Inv X pins0 σ0 H0 s0) (L : LamS X.env.scope scope) (hf : s0.heap.get? f = some (PySem.W.kla_obj "<lambda>" (X.env.qual ++ "<lambda>") params body scope (cloFrom X.env.cells scope.names []) pm c2 ctv)) (nf : H0 f = none) (ns : f ∉ frs X.stack)
    (nb : bindArgs (PySem.W.kla_fn "<lambda>" (X.env.qual ++ "<lambda>") params body scope (cloFrom X.env.cells scope.names []) pm (.ref c2) ctv) ⟨[], []⟩ = pure []) (tk : Takes ((cxOf CXg X.prog X.w X.K X.mg X.base Ng qg sg g cdg X.A X.stack s0 H0 Eg).tr pn xe) W)
    (hr : Room (k + 1) (X.A.deeper (envOfC qg sg s0.heap.objs.size g cdg))) (hb : ∀ (A : Around) (outer : List Env) (s : Shared) (H : Hp) (E : XK), Room k (A.deeper (lamEnv X scope s.heap.objs.size f c2)) → PE (lamCx X A outer s H E scope f c2) body (tb E))
    (hN : Ng[i]? = some a) (hv : Vis sg a) (hd : (a == ("__debug__" : Str)) = false) (hcd : (a == ("__classdict__" : Str)) = false) :
    PE ((cxOf CXg X.prog X.w X.K X.mg X.base Ng qg sg g cdg X.A X.stack s0 H0 Eg).tr pn xe) (.Call (.Name a p1) [] [] p2) (fun σ H Q => σ[i]? = some (some (.ref f)) ∧ H c2 = some (CodeO c2 (X.env.qual ++ "<lambda>")) ∧ tb (WE W σ) σ0 H Q) := by
  refine ⟨fun pZ sZ σZ HZ Q IZ ⟨z1, z2, z3⟩ => ?_⟩
  refine wpAny_Call_Name_kw (thn ((pe_var (pos := p1) (i := i) hN hv hd hcd).run pZ sZ σZ HZ (fun v H1 => v = .ref f ∧ H1 = HZ) IZ ⟨.ref f, z1, rfl, rfl⟩) fun u s1 ⟨v, H1, I1, r1, e1, e2⟩ => ?_)
  subst e1 e2
  obtain rfl : u = Value.ref f := r1
  have at1 : s1.heap.get? f = some (PySem.W.kla_obj "<lambda>" (X.env.qual ++ "<lambda>") params body scope (cloFrom X.env.cells scope.names []) pm c2 ctv) := I1.base.keep f _ hf nf ns fun z => nomatch (show f ∈ ([] : List Addr) from z)
  refine PySem.W.callWith_F0 ⟨_, _, _, _, at1⟩ ?_
  have U : Un (frs X.stack) [] H0 H1 s0.heap s1.heap := I1.base
  obtain ⟨⟨oc, cvs, ct, g1, g2, g3⟩, _, _⟩ := I1.hok c2 _ z2
  have run : codeAny (model X.prog X.w) (X.A.deeper (envOfC qg sg s0.heap.objs.size g cdg)) (.call (.ref f) ⟨[], []⟩) (CR (L2.CX X.prog X.w) (envOfC qg sg s0.heap.objs.size g cdg :: X.stack) X.prog X.w H1 s1 Q (WE W σZ)) s1 := by
    refine PySem.W.kla_callFunE hr.depth at1 rfl L.co L.gen rfl ⟨c2, oc, cvs, ct, rfl, g1, g2, g3⟩ (by
      rw [nb]
      refine wpAny_pure (wpAny_newFunctionEnv (fun y hy => (L.own y hy).2) (fun y hy => absurd hy (by simp)) (fun hp hns hsb => ⟨I1.nolimit.fresh _ hsb, ?_⟩) L.kind)
      have kept : ∀ b o, s1.heap.get? b = some o → hp.get? b = some o := fun b o q => hsb.extBut b o (Nat.ne_of_lt (Heap.lt_size q)) (Heap.get?_push_of_some _ q)
      have J : Inv (lamCx X (X.A.deeper (envOfC qg sg s0.heap.objs.size g cdg)) (envOfC qg sg s0.heap.objs.size g cdg :: X.stack) s1 H1 (WE W σZ) scope f c2) [] σ0 H1 { s1 with heap := hp, toks := s1.toks + ([] : List (Str × Value)).length } := lam_start2 I0 L I1.env0 hr.hd U hns kept
      show codeAny _ _ (.expr body (lamEnv X scope s1.heap.objs.size f c2)) _ _
      refine PySem.W.kla_codeExpr (wpAny_mono ((hb _ _ s1 H1 _ (hr.deeper _)).run [] _ _ H1 Q J z3) (fun v s2 ⟨w1, H2, J2, rv, q2⟩ => ⟨w1, H2, J2.os, J2.bare, J2.base, J2.hok, rv, q2⟩) fun _ _ q => q))
  refine wpAny_call (codeAny_mono run fun r s2 hq => ?_)
  rcases r with e | fl
  · exact passAt tk σZ pZ H1 s1 e s2 I1 hq
  · cases fl <;> first | exact I1.after hq | exact False.elim hq
/-- the def that calls what it got, beside a text y -/
def Gives2 (X : Cx) (Ng : List Str) (x : Str) (sg : Scope) (g : Addr) (cdg : Value) (bg : List Stmt) (a : Str) (q : Str) (y : Str) (TT : (XK → Hp → VK → Prop) → Hp → VK → Prop) : Prop :=
  ∀ (f c' : Addr) (s : Shared) (H : Hp) (Q : VK) (tl : XK → Hp → VK → Prop),
    (∀ (W : WX) (pn : List (Addr × Obj)) (xe : Value → Shared → Prop) (p1 p2 : Pos), Takes ((cxOf C8.CX0 X.prog X.w X.K X.mg X.base Ng x sg g cdg X.A X.stack s H C8.E0).tr pn xe) W →
      PE ((cxOf C8.CX0 X.prog X.w X.K X.mg X.base Ng x sg g cdg X.A X.stack s H C8.E0).tr pn xe) (.Call (.Name a p1) [] [] p2) (fun σZ HZ Q => σZ[0]? = some (some (.ref f)) ∧ HZ c' = some (CodeO c' q) ∧ tl (WE W σZ) HZ Q)) →
    H c' = some (CodeO c' q) → TT tl H Q →
    ∃ t, PSs (cxOf C8.CX0 X.prog X.w X.K X.mg X.base Ng x sg g cdg X.A X.stack s H C8.E0).nox bg t ∧ t { nx := fun _ H' => Q .non H', rt := Q } (L2.start Ng [.ref f, .str y]) H
section
variable {X : Cx}
theorem pe_lam2 {T : List (Addr × Str)} {TT : (XK → Hp → VK → Prop) → Hp → VK → Prop} {x a b y : Str} {g c P : Addr} {k j : Nat} {pg : Arguments} {bg : List Stmt} {sg : Scope} {dV kV doc pm cdv ct oc : Value} {an od : Option Addr} {osl : Array (Option Value)} {Ng : List Str}
    {params : Arguments} {body : Expr} {scope : Scope} {t : XK → TE} {p lpos cpos pos : Pos} (hg : Gl X x) (hm : X.mg x = some (.ref g)) (hk : PySem.W.keepIn X.K (.ref g) = true)
    (lk : X.K.lookup g = some ⟨oc, od, .func (PySem.W.fnOf x x pg bg sg dV kV doc pm an cdv ct), osl⟩) (hcg : PySem.W.codeIn X.K cdv x = true) (hb : L2.Binds X.K (PySem.W.fnOf x x pg bg sg dV kV doc pm an cdv ct) [a, b] []) (Sg : FnScope Ng [a, b] sg) (hNg : Ng[0]? = some a) (hva : Vis sg a)
    (hG : Gives2 X Ng x sg g cdv bg a (X.env.qual ++ "<lambda>") y TT)
    (TB : TabB X.base X.mg c P) (hcode : X.env.code = .ref c) (hmT : (P, X.env.qual ++ "<lambda>") ∈ T) (hu : ∀ p ∈ T, p.1 = P → p.2 = X.env.qual ++ "<lambda>") (hr : Room (k + 2) X.A) (L : LamS X.env.scope scope) (hdef : defaultsOf params X.env = ([], []))
    (hbind : ∀ (q : Str) (cl : List (Str × Addr)) (pm cv ctv : Value), bindArgs (PySem.W.kla_fn "<lambda>" q params body scope cl pm cv ctv) ⟨[], []⟩ = pure [])
    (hbody : ∀ (A : Around) (outer : List Env) (s : Shared) (H : Hp) (E : XK) (f c' : Addr), Room k (A.deeper (lamEnv X scope s.heap.objs.size f c')) → PE (lamCx X A outer s H E scope f c') body (t E))
    (hdb : (x == ("__debug__" : Str)) = false := by decide) (hd : (a == ("__debug__" : Str)) = false := by decide) (hcd : (a == ("__classdict__" : Str)) = false := by decide) :
    PE X (.Call (.Name x p) [.Lambda params body scope lpos, .Constant (.str y) j cpos] [] pos) (tLam T TT t) := by
  refine ⟨fun pins s σ H Q I ⟨hT, h⟩ => ?_⟩
  refine wpAny_Call_Name_kw (ld_glob I hg hm ?_ hdb)
  refine PySem.W.callWith_K (h₀ := X.base) I.ok.mod.kin hk ?_ (by rfl) (by rfl)
  show wpAny _ _ (spliced ((false, eval (.Lambda params body scope lpos) X.env) :: (backTo pos (starEach [.Constant (.str y) j cpos] X.env)))) _ _ s
  refine Calls.spliced_cons (lam_make2 I TB hcode hmT hu hT hdef (L.has I.ok) fun f c' pm' ctv H1 s' I1 eN T1 hf hfn hfr hco => ?_)
  refine Calls.spliced_cons (Calls.Constant_str (k := j) (pos := cpos) ?_)
  have I2 : Inv X pins σ H1 { s' with toks := s'.toks + 1 } := I1.tok _
  refine Calls.spliced_nil ⟨I2.kIn, ?_⟩
  have rc : codeAny (model X.prog X.w) X.A (.call (.ref g) ⟨[.ref f, .str y s'.toks], []⟩) (CR C8.CX0 X.stack X.prog X.w H1 { s' with toks := s'.toks + 1 } Q C8.E0) { s' with toks := s'.toks + 1 } := by
    refine run_ofS (N := Ng) (ps := [a, b]) (us := [.ref f, .str y s'.toks]) (vs := [.ref f, .str y]) lk hcg Sg hr I2.env0 (hb _ [.ref f, .str y s'.toks] I2.kIn rfl) (.cons rfl (.cons ⟨_, rfl⟩ .nil)) rfl fun hr2 => ?_
    obtain ⟨t', ht', hq'⟩ := hG f c' _ H1 Q (fun E H' Q' => t E σ H' Q')
      (fun W pn xe p1 p2 tk => pe_act2 (i := 0) I2 L hf hfn hfr (hbind _ _ _ _ _) tk hr2 (fun A outer s H E hr3 => hbody A outer s H E f c' hr3) hNg hva hd hcd) hco (h H1 eN T1)
    exact ⟨t', ht'.nox, hq'⟩
  refine wpAny_call (codeAny_mono rc fun r s2 hq => ?_)
  cases r with
  | error e => exact (show False from hq).elim
  | ok fl => cases fl <;> first | exact I2.after hq | exact (show False from hq).elim
end
end K1

/-! k04: the text by places. -/
namespace K18
open PySem PySem.Spec PyProof.Rows L2 LamX K1

abbrev sHRet : Stmt := inClass (top 48) 1
abbrev sHEq : Stmt := inClass (top 48) 3
abbrev sSIter : Stmt := inClass (top 49) 8
abbrev sSEq : Stmt := inClass (top 49) 11
abbrev sSNeg : Stmt := inClass (top 49) 12
abbrev sSAdd : Stmt := inClass (top 49) 13
/-- a def of the text, no defaults -/
abbrev DefAt (K : PySem.W.Frag) (x qual : Str) (st : Stmt) (f : Addr) (fd : FuncData) : Prop := FunD K x qual (defArgs st) (defBody st) (defScope st) [] [] f fd
/-- built-in names that the module has not stored -/
structure Glob (mg : Str → Option Value) : Prop where
  abs : mg "abs" = none
  int : mg "int" = none
  len : mg "len" = none
  bool : mg "bool" = none
  repr : mg "repr" = none
  isi : mg "isinstance" = none
  range : mg "range" = none
  all : mg "all" = none
  lst : mg "list" = none
  tup : mg "tuple" = none
  set : mg "set" = none
  sorted : mg "sorted" = none
  min : mg "min" = none
  max : mg "max" = none
  zip : mg "zip" = none
  iter : mg "iter" = none
  str : mg "str" = none
  sum : mg "sum" = none
  enum : mg "enumerate" = none
  gcd : mg "gcd" = some (.builtin "math.gcd")
/-- a def of the module that is called by its name -/
structure Has (P : Program) (w : World) (K : PySem.W.Frag) (mg : Str → Option Value) (base : Heap) (CX : CXT) (k : Nat) (x : Str) (ps : List Str) (sp : Sp) : Prop where
  h : ∃ f fd, mg x = some (.ref f) ∧ PySem.W.keepIn K (.ref f) = true ∧ Binds K fd ps [] ∧ FnOk P w K mg base CX k f fd ps sp
theorem okN {P : Program} {w : World} {K : PySem.W.Frag} {mg : Str → Option Value} {base : Heap} {x qual : Str} {st : Stmt} {f : Addr} {fd : FuncData} {N ps : List Str} {k : Nat} {sp : Sp}
    (F : DefAt K x qual st f fd) (S : FnScope N ps (defScope st)) (len : ∀ vs H Q E, sp vs H Q E → vs.length = ps.length)
    (hb : ∀ (cdv : Value) (A : Around) (outer : List Env) (s : Shared) (H : Hp) (vs : List V) (Q : VK) (E : XK), Room k (A.deeper (envOfC qual (defScope st) s.heap.objs.size f cdv)) → sp vs H Q E →
      ∃ t, PSs (cxOf CX0 P w K mg base N qual (defScope st) f cdv A outer s H E).nox (defBody st) t ∧ t { nx := fun _ H' => Q .non H', rt := Q } (start N vs) H) : FnOk P w K mg base CX0 (k + 1) f fd ps sp :=
  F.ok S len fun cdv A outer s H vs Q E hr h => let ⟨t, h1, h2⟩ := hb cdv A outer s H vs Q E hr h; ⟨t, h1.nox, h2⟩
/-- a def that may raise -/
theorem okX {P : Program} {w : World} {K : PySem.W.Frag} {mg : Str → Option Value} {base : Heap} {x qual : Str} {st : Stmt} {f : Addr} {fd : FuncData} {N ps : List Str} {k : Nat} {sp : Sp}
    (F : DefAt K x qual st f fd) (S : FnScope N ps (defScope st)) (len : ∀ vs H Q E, sp vs H Q E → vs.length = ps.length)
    (hb : ∀ (cdv : Value) (A : Around) (outer : List Env) (s : Shared) (H : Hp) (vs : List V) (Q : VK) (E : XK), Room k (A.deeper (envOfC qual (defScope st) s.heap.objs.size f cdv)) → sp vs H Q E →
      ∃ t, PSs (cxOf (L2.CX P w) P w K mg base N qual (defScope st) f cdv A outer s H E) (defBody st) t ∧ t { nx := fun _ H' => Q .non H', rt := Q } (start N vs) H) : FnOk P w K mg base (L2.CX P w) (k + 1) f fd ps sp := by
  obtain ⟨oc, od, dV, kV, doc, pm, an, cdv, ct, osl, rfl, lk, hcd, _, _⟩ := F.ex
  exact fn_of lk hcd S len fun A outer s H vs Q E hr h => hb cdv A outer s H vs Q E hr h
theorem yes_of {σ : L2.St} {H : Hp} {F G : Hp → Prop} (h : F H) : tYes σ H (fun b H' => if b = true then F H' else G H') := h
theorem upd_new {H : Hp} {a : Addr} {o : HO} (h : H a = none) : Same H (upd H a o) := fun b u e => by rw [upd_ne (ne_of_none e h)]; exact e
end K18

/-! k18: lambdas with parameters, kept as values; x(lambda: ..). -/
namespace K18
open PySem PySem.Spec PyProof.Rows L2 LamX K1 NdefX

/-- a made lambda's words, cells, code -/
structure LF where
  q : Str
  ps : Arguments
  e : Expr
  sc : Scope
  cl : List (Str × Addr)
  c : Addr
abbrev LF.ob (F : LF) (pm ct : Value) : Obj := PySem.W.kla_obj "<lambda>" F.q F.ps F.e F.sc F.cl pm F.c ct
abbrev LF.nf (F : LF) : NF := ⟨"<lambda>", F.q, F.ps, [], F.sc, F.cl, F.c⟩
/-- at f stands that lambda -/
def LamO (f : Addr) (F : LF) : HO := .ext fun h => ∃ pm ct : Value, h.get? f = some (F.ob pm ct)
theorem lamO_at {P : Program} {w : World} {H : Hp} {h : Heap} {f : Addr} {F : LF} (ok : HOk P w H h) (e : H f = some (LamO f F)) : ∃ pm ct : Value, h.get? f = some (F.ob pm ct) := (ok f _ e).1
section
variable {X : Cx} {pins : List (Addr × Obj)} {σ : L2.St} {H : Hp} {s : Shared}
theorem lam_lay {F : LF} {pm ct : Value} {tk : Nat} (I : Inv X pins σ H s) : Inv X pins σ (upd H s.heap.objs.size (LamO s.heap.objs.size F)) { s with heap := s.heap.push (F.ob pm ct), toks := tk } := by
  have here : (s.heap.push (F.ob pm ct)).get? s.heap.objs.size = some (F.ob pm ct) := Heap.get?_push_size _ rfl
  exact I.laid (fun _ _ z => Heap.get?_push_of_some _ z) (Nat.le_refl _) ⟨⟨pm, ct, here⟩, ⟨_, here⟩, fun _ _ ⟨p, t, z⟩ st => ⟨p, t, st _ z⟩⟩
/-- a lambda made and kept -/
theorem lam_makeT {T : List (Addr × Str)} {c P : Addr} {params : Arguments} {body : Expr} {sc : Scope} {pos : Pos} {E Q : Value → Shared → Prop} (I : Inv X pins σ H s) (B : TabB X.base X.mg c P) (ec : X.env.code = .ref c)
    (inT : (P, X.env.qual ++ "<lambda>") ∈ T) (one : ∀ p ∈ T, p.1 = P → p.2 = X.env.qual ++ "<lambda>") (tabs : Tabs T H) (nod : defaultsOf params X.env = ([], [])) (fr : ∀ y ∈ sc.names, y.2 = .free → ∃ c, X.env.cells.lookup y.1 = some c)
    (k : ∀ (f c' : Addr) (H1 : Hp) (s' : Shared), Inv X pins σ H1 s' → ExtN H H1 → Tabs T H1 → H f = none → H1 f = some (LamO f ⟨X.env.qual ++ "<lambda>", params, body, sc, cloFrom X.env.cells sc.names [], c'⟩) → H1 c' = some (CodeO c' (X.env.qual ++ "<lambda>")) → Q (.ref f) s') :
    wpAny (model X.prog X.w) X.A (eval (.Lambda params body sc pos) X.env) Q E s := by
  obtain ⟨tb, tP, tO, tA⟩ := (show TabS H P (X.env.qual ++ "<lambda>") from tabs _ inT)
  refine PySem.W.kla_eval nod ?_
  have hp : s.heap.get? P = some { cls := .none, data := .fields tb } := I.hok P _ tP
  have bb : s.heap.BuiltinsAt X.mg P := B.bm.keeps I.bk
  cases am : codeAmong pos tb.toList with
  | some cv =>
    obtain ⟨c', rfl, co⟩ := tA pos cv am
    refine PySem.W.kla_makeFunctionHit (mg := X.mg) (c := c) (P := P) (ps := tb) (closure_ok fr) I.ok.glob (I.mod.glob.keeps I.bk) ec (B.code.keeps I.bk) hp tO am bb fun ct h1 tk kp _ => ?_
    have J : Inv X pins σ H { s with heap := h1, toks := tk } := I.kept kp
    have nf := J.hok.fresh (Nat.le_refl _)
    have J2 := lam_lay (F := ⟨X.env.qual ++ "<lambda>", params, body, sc, cloFrom X.env.cells sc.names [], c'⟩) (pm := (X.mg "__name__").getD .none) (ct := ct) (tk := tk) J
    exact k _ c' _ _ J2 (fun b o e _ => (upd_ne (ne_of_none e nf)).trans e) (tabs.ext fun b o e => (upd_ne (ne_of_none e nf)).trans e) nf upd_same ((upd_ne (ne_of_none co nf)).trans co)
  | none =>
    refine PySem.W.kla_makeFunction (mg := X.mg) (c := c) (P := P) (ps := tb) (closure_ok fr) I.ok.glob (I.mod.glob.keeps I.bk) ec (B.code.keeps I.bk) hp tO am B.gP bb fun c' ct h1 tk kp g1 g2 rec_ htb => ?_
    obtain ⟨c2, oc, vs, t, e2, o1, o2, o3⟩ := rec_
    cases e2
    have nC : H c' = none := I.hok.fresh g1
    have J := inv_table (t' := tk) (more := #[rawInt pos.line, rawInt pos.col, .ref c']) (h' := h1) I tP (fun b o nb e => kp b o nb e) htb g1 ⟨oc, vs, t, o1, o2, o3⟩
    have ext : ExtN H (upd (upd H P (.tbl (tb ++ #[rawInt pos.line, rawInt pos.col, .ref c']))) c' (CodeO c' (X.env.qual ++ "<lambda>"))) := fun b o e n => by
      rw [upd_ne (ne_of_none e nC), upd_ne (fun z => n tb (Option.some.inj (e.symm.trans (by rw [z]; exact tP))))]
      exact e
    have lst : (tb ++ #[rawInt pos.line, rawInt pos.col, .ref c']).toList = tb.toList ++ [rawInt pos.line, rawInt pos.col, .ref c'] := by simp
    have T1 : Tabs T (upd (upd H P (.tbl (tb ++ #[rawInt pos.line, rawInt pos.col, .ref c']))) c' (CodeO c' (X.env.qual ++ "<lambda>"))) := fun p hp => by
      by_cases hb : p.1 = P
      · rw [one p hp hb, hb]
        refine ⟨_, (upd_ne (ne_of_none tP nC)).trans upd_same, by rw [lst]; exact PySem.TriplesOk_snoc _ _ _ _ tO, fun pz cv hc => ?_⟩
        rw [lst] at hc
        exact (among_app _ tO hc).elim (fun z => let ⟨c0, e1, e2⟩ := tA pz cv z; ⟨c0, e1, ext _ _ e2 codeO_ne⟩) fun z => ⟨c', z, upd_same⟩
      · obtain ⟨qs, a1, a2, a3⟩ := tabs p hp
        exact ⟨qs, by rw [upd_ne (ne_of_none a1 nC), upd_ne hb]; exact a1, a2, fun pz cv hc => let ⟨c0, e1, e2⟩ := a3 pz cv hc; ⟨c0, e1, ext _ _ e2 codeO_ne⟩⟩
    have nf := J.hok.fresh (Nat.le_refl _)
    have J2 := lam_lay (F := ⟨X.env.qual ++ "<lambda>", params, body, sc, cloFrom X.env.cells sc.names [], c'⟩) (pm := (X.mg "__name__").getD .none) (ct := ct) (tk := tk) J
    exact k _ c' _ _ J2 (fun b o e n => (upd_ne (ne_of_none (ext b o e n) nf)).trans (ext b o e n)) (T1.ext fun b o e => (upd_ne (ne_of_none e nf)).trans e) (I.hok.fresh (Nat.le_trans g1 (Nat.le_of_lt g2))) upd_same ((upd_ne (Nat.ne_of_lt g2)).trans upd_same)
end
def tLamV (T : List (Addr × Str)) (mk : Addr → LF) : TE := fun σ H Q => Tabs T H ∧ ∀ (f c' : Addr) (H1 : Hp), ExtN H H1 → Tabs T H1 → H f = none → H1 f = some (LamO f (mk c')) → H1 c' = some (CodeO c' (mk c').q) → Q (.ref f) H1
/-- the free names of a lambda are cells of the def -/
def lamFB (sc nsc : Scope) : Bool := nsc.names.all fun y => !decide (y.2 = .free) || decide (sc.names.lookup y.1 = some .cell) || decide (sc.names.lookup y.1 = some .free)
theorem lamF_ok {sc nsc : Scope} (h : lamFB sc nsc = true) : ∀ y ∈ nsc.names, y.2 = .free → sc.names.lookup y.1 = some .cell ∨ sc.names.lookup y.1 = some .free := fun y hy e => by
  have z := List.all_eq_true.mp h y hy
  simp only [Bool.or_eq_true, Bool.not_eq_true', decide_eq_true_eq, decide_eq_false_iff_not] at z
  exact z.elim (fun z => z.elim (fun z => absurd e z) .inl) .inr
theorem pe_lamV {X : Cx} {T : List (Addr × Str)} {c P : Addr} {params : Arguments} {body : Expr} {sc : Scope} {pos : Pos} (B : TabB X.base X.mg c P) (ec : X.env.code = .ref c)
    (inT : (P, X.env.qual ++ "<lambda>") ∈ T) (one : ∀ p ∈ T, p.1 = P → p.2 = X.env.qual ++ "<lambda>") (fr : lamFB X.env.scope sc = true) (nod : defaultsOf params X.env = ([], []) := by rfl) :
    PE X (.Lambda params body sc pos) (tLamV T fun c' => ⟨X.env.qual ++ "<lambda>", params, body, sc, cloFrom X.env.cells sc.names [], c'⟩) :=
  ⟨fun pins s σ H Q I ⟨t, k⟩ => lam_makeT I B ec inT one t nod (fun y hy e => (lamF_ok fr y hy e).elim (fun z => I.ok.has _ (.inl z)) fun z => I.ok.has _ (.inr z)) fun f c' H1 s' J x t1 n a b => ⟨.ref f, H1, J, rfl, k f c' H1 x t1 n a b⟩⟩

/-! ### calls of such -/
theorem cells_un {cl : List (Str × Addr)} {fr : List Str} {ws : List (Option V)} {h h' : Heap} {H H' : Hp} {fs : List Addr} (C : CellsAt cl fr ws h H) (U : Un fs [] H H' h h') : CellsAt cl fr ws h' H' := by
  have kp : ∀ y c, cl.lookup y = some c → ∀ v, h.IsCell c v → h'.IsCell c v := fun y c e v ⟨o, ho, hd⟩ => by
    obtain ⟨sl, z⟩ := U.any ho (C.all y c e).1 (by simp)
    exact ⟨_, z, hd⟩
  refine ⟨C.len, fun y c e => ?_, C.inj, fun i y e => ?_⟩
  · obtain ⟨n, v, z⟩ := C.all y c e
    obtain ⟨o, ho, _⟩ := id z
    exact ⟨U.free c o ho n (by simp), v, kp y c e v z⟩
  · obtain ⟨c, hc, hv⟩ := C.has i y e
    exact ⟨c, hc, fun v ev => let ⟨u, r, z⟩ := hv v ev; ⟨u, r, kp y c hc _ z⟩⟩
structure LOk (P : Program) (w : World) (K : PySem.W.Frag) (mg : Str → Option Value) (base : Heap) (CX : CXT) (k : Nat) (F : LF) (ps fr : List Str) (sp : List (Option V) → Sp) : Prop where
  run : ∀ (f : Addr) (A : Around) (outer : List Env) (s : Shared) (H : Hp) (us : List Value) (vs : List V) (ws : List (Option V)) (Q : VK) (E : XK), Room k A → Env0 P w K mg base A outer s H → H f = some (LamO f F) → H F.c = some (CodeO F.c F.q) →
    CellsAt F.cl fr ws s.heap H → Vals vs us → sp ws vs H Q E → codeAny (model P w) A (.call (.ref f) ⟨us, []⟩) (CR CX outer P w H s Q E) s
section
variable {CX : CXT} {P : Program} {w : World} {K : PySem.W.Frag} {mg : Str → Option Value} {base : Heap} {N ps fr : List Str} {F : LF} {k : Nat} {sp : List (Option V) → Sp}
theorem lok_of (S : NScope N ps fr F.sc) (hb : ∀ (pm ct : Value) (us : List Value), us.length = ps.length → bindArgs (PySem.W.kla_fn "<lambda>" F.q F.ps F.e F.sc F.cl pm (.ref F.c) ct) ⟨us, []⟩ = pure (ps.zip us)) (len : ∀ ws vs H Q E, sp ws vs H Q E → vs.length = ps.length)
    (body : ∀ (f : Addr) (A : Around) (outer : List Env) (s : Shared) (H : Hp) (vs : List V) (ws : List (Option V)) (Q : VK) (E : XK), Room k (A.deeper (envF F.nf f s.heap.objs.size)) → ws.length = fr.length → sp ws vs H Q E →
      ∃ t, PE (ncx CX P w K mg base N F.nf f A outer s H E) F.e t ∧ t (startF N vs ws) H Q) : LOk P w K mg base CX (k + 1) F ps fr sp := by
  refine ⟨fun f A outer s H us vs ws Q E hr e0 hf hc C r hsp => ?_⟩
  have hl := len _ _ _ _ _ hsp
  have lim : s.heap.NoLimit := e0.mod.nolimit.keeps fun b o e => (e0.bs b o e).1
  obtain ⟨pm, ct, ho⟩ := lamO_at e0.hok hf
  obtain ⟨oc, cv, t, g1, g2, g3⟩ := (e0.hok F.c _ hc).1
  refine PySem.W.kla_callFunE hr.depth ho rfl S.co S.gen rfl ⟨F.c, oc, cv, t, rfl, g1, g2, g3⟩ ?_
  rw [hb pm ct us (by rw [← r.length]; exact hl)]
  refine wpAny_pure (wpAny_newFunctionEnv S.nocell (fun ⟨n, _⟩ hy => S.par n (List.of_mem_zip hy).1) (fun h₁ hns hsb => ⟨lim.fresh _ hsb, ?_⟩) S.kind)
  have kp : ∀ b o, s.heap.get? b = some o → h₁.get? b = some o := fun b o q => hsb.extBut b o (Nat.ne_of_lt (Heap.lt_size q)) (Heap.get?_push_of_some _ q)
  obtain ⟨t, ht, hq⟩ := body f A outer s H vs ws Q E (hr.deeper _) C.len hsp
  have J : Inv (ncx CX P w K mg base N F.nf f A outer s H E) [] (startF N vs ws) H { s with heap := h₁, toks := s.toks + (ps.zip us).length } := inv_startN S hr.hd e0 hl r C hns kp
  show codeAny _ _ (.expr F.e (envF F.nf f s.heap.objs.size)) _ _
  exact PySem.W.kla_codeExpr (wpAny_mono (ht.run [] _ _ H Q J hq) (fun v s2 ⟨w1, H2, J2, rv, q2⟩ => ⟨w1, H2, J2.os, J2.bare, J2.base, J2.hok, rv, q2⟩) fun _ _ q => q)
end
/-- x(e, ..), x a name that holds one of the lambdas of OK; what their cells held at the frame's entry is known -/
def tCallV (i : Nat) (OK : LF → Prop) (sp : LF → List (Option V) → Sp) (ws : List (Option V)) (E : XK) (t : TA) : TE := fun σ H Q => ∃ (f : Addr) (F : LF), σ[i]? = some (some (.ref f)) ∧ OK F ∧ H f = some (LamO f F) ∧
  t σ H fun vs H1 => H1 f = some (LamO f F) ∧ H1 F.c = some (CodeO F.c F.q) ∧ sp F ws vs H1 Q E
theorem pe_callV {X : Cx} {CX : CXT} {OK : LF → Prop} {cl : List (Str × Addr)} {ps fr : List Str} {ws : List (Option V)} {i j k : Nat} {x : Str} {sp : LF → List (Option V) → Sp} {E : XK} {t : TA} {e : Expr} {es : List Expr} {p pos : Pos} (hex : X.ex = [])
    (C : ∀ F, OK F → CellsAt F.cl fr ws X.s_0.heap X.H_0) (L : ∀ F, OK F → LOk X.prog X.w X.K X.mg X.base CX k F ps fr (sp F)) (hr : Room j X.A) (hk : k ≤ j) (hx : Passes CX X E) (hN : X.N[i]? = some x) (hv : Vis X.env.scope x) (ha : PA X (e :: es) t)
    (hd : (x == ("__debug__" : Str)) = false := by decide) (hcd : (x == ("__classdict__" : Str)) = false := by decide)
    (he : starEach (e :: es) X.env = (false, eval e X.env) :: starEach es X.env := by rfl) (hpl : (backTo pos (starEach es X.env)).any (·.1) = false := by rfl) :
    PE X (.Call (.Name x p) (e :: es) [] pos) (tCallV i OK sp ws E t) := by
  refine ⟨fun pins s σ H Q I ⟨f, F, hs, ok, hf, ht⟩ => ?_⟩
  refine wpAny_Call_Name_kw (thn ((pe_var (pos := p) hN hv hd hcd).run pins s σ H (fun v H1 => v = .ref f ∧ H1 = H) I ⟨.ref f, hs, rfl, rfl⟩) fun u s1 ⟨v, H1, I1, r1, ev, eH⟩ => ?_)
  subst ev eH
  obtain rfl : u = Value.ref f := r1
  have fa : ∀ {H' : Hp} {s' : Shared}, HOk X.prog X.w H' s'.heap → H' f = some (LamO f F) → PySem.W.FnAt f s'.heap := fun ok e => let ⟨_, _, z⟩ := lamO_at ok e; ⟨_, _, _, _, z⟩
  refine PySem.W.callWith_F (first := []) (fa I1.hok hf) (thn (ha.run pos pins s1 σ H1 _ I1 ht) fun us s2 ⟨vs, H2, I2, r, h1, h2, q⟩ => ⟨fa I2.hok h1, ?_⟩) he hpl
  have U : Un X.fs [] X.H_0 H2 X.s_0.heap s2.heap := by
    have z := I2.base
    rw [hex] at z
    exact z
  refine wpAny_call (codeAny_mono ((L F ok).run f X.A X.stack s2 H2 us vs ws Q E (hr.mono hk) I2.env0 h1 h2 (cells_un (C F ok) U) r q) fun r s' hq => ?_)
  cases r with
  | error e => exact hx pins σ H2 s2 e s' I2 hq
  | ok fl => cases fl <;> first | exact I2.after hq | exact False.elim hq
end K18

/-! k18: f(lambda: body), f a def of one parameter that calls what it gets; the body may call what the def holds. -/
namespace K18
open PySem PySem.Spec PyProof.Rows L2 LamX K1 NdefX

/-- at the lambda's entry: what the cells of the def X held at the slots σ they hold in h -/
def CellF (X : Cx) (σ : L2.St) (h : Heap) (H : Hp) : Prop := ∀ (cl : List (Str × Addr)) (fr : List Str) (js : List Nat), (X.Ok → Caps X cl fr js) → CellsAt cl fr (js.map (slotAt σ)) h H
theorem pe_act1 {X : Cx} {pins0 : List (Addr × Obj)} {σ0 : L2.St} {H0 : Hp} {s0 : Shared} {CXg : CXT} {Eg : XK} {Ng : List Str} {qg a : Str} {sg scope : Scope} {g f c2 : Addr} {cdg pm ctv : Value} {params : Arguments} {body : Expr} {k i : Nat} {pn : List (Addr × Obj)} {xe : Value → Shared → Prop} {W : WX}
    {tb : XK → TE} {p1 p2 : Pos} (I0 : Inv X pins0 σ0 H0 s0) (L : LamS X.env.scope scope) (hf : s0.heap.get? f = some (PySem.W.kla_obj "<lambda>" (X.env.qual ++ "<lambda>") params body scope (cloFrom X.env.cells scope.names []) pm c2 ctv)) (nf : H0 f = none) (ns : f ∉ frs X.stack)
    (nb : bindArgs (PySem.W.kla_fn "<lambda>" (X.env.qual ++ "<lambda>") params body scope (cloFrom X.env.cells scope.names []) pm (.ref c2) ctv) ⟨[], []⟩ = pure []) (tk : Takes ((cxOf CXg X.prog X.w X.K X.mg X.base Ng qg sg g cdg X.A X.stack s0 H0 Eg).tr pn xe) W)
    (hr : Room (k + 1) (X.A.deeper (envOfC qg sg s0.heap.objs.size g cdg))) (hb : ∀ (A : Around) (outer : List Env) (s : Shared) (H : Hp) (E : XK), Room k (A.deeper (lamEnv X scope s.heap.objs.size f c2)) → CellF X σ0 s.heap H → PE (lamCx X A outer s H E scope f c2) body (tb E))
    (hN : Ng[i]? = some a) (hv : Vis sg a) (hd : (a == ("__debug__" : Str)) = false) (hcd : (a == ("__classdict__" : Str)) = false) :
    PE ((cxOf CXg X.prog X.w X.K X.mg X.base Ng qg sg g cdg X.A X.stack s0 H0 Eg).tr pn xe) (.Call (.Name a p1) [] [] p2) (fun σ H Q => σ[i]? = some (some (.ref f)) ∧ H c2 = some (CodeO c2 (X.env.qual ++ "<lambda>")) ∧ tb (WE W σ) σ0 H Q) := by
  refine ⟨fun pZ sZ σZ HZ Q IZ ⟨z1, z2, z3⟩ => ?_⟩
  refine wpAny_Call_Name_kw (thn ((pe_var (pos := p1) (i := i) hN hv hd hcd).run pZ sZ σZ HZ (fun v H1 => v = .ref f ∧ H1 = HZ) IZ ⟨.ref f, z1, rfl, rfl⟩) fun u s1 ⟨v, H1, I1, r1, e1, e2⟩ => ?_)
  subst e1 e2
  obtain rfl : u = Value.ref f := r1
  have at1 : s1.heap.get? f = some (PySem.W.kla_obj "<lambda>" (X.env.qual ++ "<lambda>") params body scope (cloFrom X.env.cells scope.names []) pm c2 ctv) := I1.base.keep f _ hf nf ns fun z => nomatch (show f ∈ ([] : List Addr) from z)
  refine PySem.W.callWith_F0 ⟨_, _, _, _, at1⟩ ?_
  have U : Un (frs X.stack) [] H0 H1 s0.heap s1.heap := I1.base
  have cf : CellF X σ0 s1.heap H1 := fun cl fr js cp => cells_un (cells_of I0 (cp I0.ok)) U
  obtain ⟨⟨oc, cvs, ct, g1, g2, g3⟩, _, _⟩ := I1.hok c2 _ z2
  have run : codeAny (model X.prog X.w) (X.A.deeper (envOfC qg sg s0.heap.objs.size g cdg)) (.call (.ref f) ⟨[], []⟩) (CR (L2.CX X.prog X.w) (envOfC qg sg s0.heap.objs.size g cdg :: X.stack) X.prog X.w H1 s1 Q (WE W σZ)) s1 := by
    refine PySem.W.kla_callFunE hr.depth at1 rfl L.co L.gen rfl ⟨c2, oc, cvs, ct, rfl, g1, g2, g3⟩ (by
      rw [nb]
      refine wpAny_pure (wpAny_newFunctionEnv (fun y hy => (L.own y hy).2) (fun y hy => absurd hy (by simp)) (fun hp hns hsb => ⟨I1.nolimit.fresh _ hsb, ?_⟩) L.kind)
      have kept : ∀ b o, s1.heap.get? b = some o → hp.get? b = some o := fun b o q => hsb.extBut b o (Nat.ne_of_lt (Heap.lt_size q)) (Heap.get?_push_of_some _ q)
      have J : Inv (lamCx X (X.A.deeper (envOfC qg sg s0.heap.objs.size g cdg)) (envOfC qg sg s0.heap.objs.size g cdg :: X.stack) s1 H1 (WE W σZ) scope f c2) [] σ0 H1 { s1 with heap := hp, toks := s1.toks + ([] : List (Str × Value)).length } := lam_start2 I0 L I1.env0 hr.hd U hns kept
      show codeAny _ _ (.expr body (lamEnv X scope s1.heap.objs.size f c2)) _ _
      refine PySem.W.kla_codeExpr (wpAny_mono ((hb _ _ s1 H1 _ (hr.deeper _) cf).run [] _ _ H1 Q J z3) (fun v s2 ⟨w1, H2, J2, rv, q2⟩ => ⟨w1, H2, J2.os, J2.bare, J2.base, J2.hok, rv, q2⟩) fun _ _ q => q))
  refine wpAny_call (codeAny_mono run fun r s2 hq => ?_)
  rcases r with e | fl
  · exact passAt tk σZ pZ H1 s1 e s2 I1 hq
  · cases fl <;> first | exact I1.after hq | exact False.elim hq
/-- the def of one parameter that calls what it got -/
def Gives1 (X : Cx) (Ng : List Str) (x : Str) (sg : Scope) (g : Addr) (cdg : Value) (bg : List Stmt) (a : Str) (q : Str) (TT : (XK → Hp → VK → Prop) → Hp → VK → Prop) : Prop :=
  ∀ (f c' : Addr) (s : Shared) (H : Hp) (Q : VK) (tl : XK → Hp → VK → Prop),
    (∀ (W : WX) (pn : List (Addr × Obj)) (xe : Value → Shared → Prop) (p1 p2 : Pos), Takes ((cxOf C8.CX0 X.prog X.w X.K X.mg X.base Ng x sg g cdg X.A X.stack s H C8.E0).tr pn xe) W →
      PE ((cxOf C8.CX0 X.prog X.w X.K X.mg X.base Ng x sg g cdg X.A X.stack s H C8.E0).tr pn xe) (.Call (.Name a p1) [] [] p2) (fun σZ HZ Q => σZ[0]? = some (some (.ref f)) ∧ HZ c' = some (CodeO c' q) ∧ tl (WE W σZ) HZ Q)) →
    H c' = some (CodeO c' q) → TT tl H Q →
    ∃ t, PSs (cxOf C8.CX0 X.prog X.w X.K X.mg X.base Ng x sg g cdg X.A X.stack s H C8.E0).nox bg t ∧ t { nx := fun _ H' => Q .non H', rt := Q } (L2.start Ng [.ref f]) H
theorem pe_lam1 {X : Cx} {T : List (Addr × Str)} {TT : (XK → Hp → VK → Prop) → Hp → VK → Prop} {x a : Str} {g c P : Addr} {k : Nat} {pg : Arguments} {bg : List Stmt} {sg : Scope} {dV kV doc pm cdv ct oc : Value} {an od : Option Addr} {osl : Array (Option Value)} {Ng : List Str}
    {params : Arguments} {body : Expr} {scope : Scope} {t : XK → TE} {p lpos pos : Pos} (hg : Gl X x) (hm : X.mg x = some (.ref g)) (hk : PySem.W.keepIn X.K (.ref g) = true)
    (lk : X.K.lookup g = some ⟨oc, od, .func (PySem.W.fnOf x x pg bg sg dV kV doc pm an cdv ct), osl⟩) (hcg : PySem.W.codeIn X.K cdv x = true) (hb : L2.Binds X.K (PySem.W.fnOf x x pg bg sg dV kV doc pm an cdv ct) [a] []) (Sg : FnScope Ng [a] sg) (hNg : Ng[0]? = some a) (hva : Vis sg a)
    (hG : Gives1 X Ng x sg g cdv bg a (X.env.qual ++ "<lambda>") TT)
    (TB : TabB X.base X.mg c P) (hcode : X.env.code = .ref c) (hmT : (P, X.env.qual ++ "<lambda>") ∈ T) (hu : ∀ p ∈ T, p.1 = P → p.2 = X.env.qual ++ "<lambda>") (hr : Room (k + 2) X.A) (L : LamS X.env.scope scope) (hdef : defaultsOf params X.env = ([], []))
    (hbind : ∀ (q : Str) (cl : List (Str × Addr)) (pm cv ctv : Value), bindArgs (PySem.W.kla_fn "<lambda>" q params body scope cl pm cv ctv) ⟨[], []⟩ = pure [])
    (hbody : ∀ (σ0 : L2.St) (A : Around) (outer : List Env) (s : Shared) (H : Hp) (E : XK) (f c' : Addr), Room k (A.deeper (lamEnv X scope s.heap.objs.size f c')) → CellF X σ0 s.heap H → PE (lamCx X A outer s H E scope f c') body (fun σ H' Q => σ = σ0 ∧ t E σ H' Q))
    (hdb : (x == ("__debug__" : Str)) = false := by decide) (hd : (a == ("__debug__" : Str)) = false := by decide) (hcd : (a == ("__classdict__" : Str)) = false := by decide) :
    PE X (.Call (.Name x p) [.Lambda params body scope lpos] [] pos) (tLam T TT t) := by
  refine ⟨fun pins s σ H Q I ⟨hT, h⟩ => ?_⟩
  refine wpAny_Call_Name_kw (ld_glob I hg hm ?_ hdb)
  refine PySem.W.callWith_K (h₀ := X.base) I.ok.mod.kin hk ?_ (by rfl) (by rfl)
  show wpAny _ _ (spliced ((false, eval (.Lambda params body scope lpos) X.env) :: (backTo pos (starEach [] X.env)))) _ _ s
  refine Calls.spliced_cons (lam_make2 I TB hcode hmT hu hT hdef (L.has I.ok) fun f c' pm' ctv H1 s' I1 eN T1 hf hfn hfr hco => ?_)
  refine Calls.spliced_nil ⟨I1.kIn, ?_⟩
  have rc : codeAny (model X.prog X.w) X.A (.call (.ref g) ⟨[.ref f], []⟩) (CR C8.CX0 X.stack X.prog X.w H1 s' Q C8.E0) s' := by
    refine run_ofS (N := Ng) (ps := [a]) (us := [.ref f]) (vs := [.ref f]) lk hcg Sg hr I1.env0 (hb _ [.ref f] I1.kIn rfl) (.cons rfl .nil) rfl fun hr2 => ?_
    obtain ⟨t', ht', hq'⟩ := hG f c' _ H1 Q (fun E H' Q' => σ = σ ∧ t E σ H' Q')
      (fun W pn xe p1 p2 tk => pe_act1 (i := 0) I1 L hf hfn hfr (hbind _ _ _ _ _) tk hr2 (fun A outer s H E hr3 cf => hbody σ A outer s H E f c' hr3 cf) hNg hva hd hcd) hco ((h H1 eN T1) |> fun z => by
        simpa using z)
    exact ⟨t', ht'.nox, hq'⟩
  refine wpAny_call (codeAny_mono rc fun r s2 hq => ?_)
  cases r with
  | error e => exact (show False from hq).elim
  | ok fl => cases fl <;> first | exact I1.after hq | exact (show False from hq).elim
/-- a reading at the slots of the making -/
theorem pe_at {X : Cx} {e : Expr} {t t0 : TE} {σ0 : L2.St} (h : PE X e t0) (k : ∀ H Q, t σ0 H Q → t0 σ0 H Q) : PE X e (fun σ H Q => σ = σ0 ∧ t σ H Q) :=
  ⟨fun pins s σ H Q I ⟨e, q⟩ => h.run pins s σ H Q I (by subst e; exact k H Q q)⟩
end K18

/-! k18: sets made by comprehensions, one clause and two; sets of pairs. -/
namespace K18
open PySem PySem.Spec PyProof.Rows L2 LamX K1 PpSet

/-- the new set's object -/
abbrev newSetObj (w : World) : Obj := { cls := .type "set", dict := none, data := .set #[] 0 (.fresh 0 0 (!w.params.followText "set-order")) }
/-- a kind of sets: the empty one at D; add's promise -/
structure SKind (P : Program) (w : World) (K : PySem.W.Frag) where
  z : Addr → HO
  r : V → List V → Hp → VK → Prop
  fresh : ∀ (H : Hp) (h : Heap), ObjOk P w (upd H h.objs.size (z h.objs.size)) (h.push (newSetObj w)) h.objs.size (z h.objs.size)
  add : ∀ Y : Cx, Y.prog = P → Y.w = w → Y.K = K → Y.A.units + 64 < cLine → MtR Y "set.add" r
section
variable {X : Cx}
/-- {elt for tg in iter if ..} -/
def tSetC (r : V → List V → Hp → VK → Prop) (z : Addr → HO) (wi : TI) (g : TG) (tt : TT) (te : TE) (vs : List Nat) : TE := fun σ H Q => wi σ H fun J H1 => ∀ D, H1 D = none → ∃ W : Nat → Nat → Hp → Prop, (∃ m, W 0 m (upd H1 D (z D))) ∧ ∀ i m H, W i m H →
  (J.stop i H ∧ Q (.ref D) H) ∨ (J.go i H ∧ ∃ Nx : Hp → Prop, (∀ H', Nx H' → ∃ m', m' < m ∧ W (i + 1) m' H') ∧ ∀ x H', J.yld i H x H' → g x (wipe σ vs) H' fun σ2 H2 => wipe σ2 vs = wipe σ vs ∧ tt σ2 H2 fun b H3 =>
    if b = true then te σ2 H3 fun y H4 => r (.ref D) [y] H4 fun _ H5 => Nx H5 else Nx H3)
theorem setc_core (S : SKind X.prog X.w X.K) {pins : List (Addr × Obj)} {s : Shared} {σ : L2.St} {H : Hp} {Q : VK} {elt tg iter : Expr} {ifs : List Expr} {scope : Scope} {own : List (PySem.Str × Nat)} {pos pos' : Pos} {wi : TI} {g : TG} {tt : TT} {te : TE} {use : Option (Value → Sem Unit)} {Qf : Value → Shared → Prop}
    (hu : X.A.units + 64 < cLine) (hc : X.calm = true) (hN : X.N.Nodup) (I : Inv X pins σ H s) (hi : PI X tg iter wi) (ok : BlkOk X.N X.env.scope scope own)
    (hg : ∀ (s : Shared) (H : Hp) (C : Addr) (cl : List (PySem.Str × Addr)) (fp : List Addr), PG (X.blk s H scope (compEnvC scope cl C X.env) fp) tg g) (ht : ∀ (s : Shared) (H : Hp) (C : Addr) (cl : List (PySem.Str × Addr)) (fp : List Addr), PTs (X.blk s H scope (compEnvC scope cl C X.env) fp) ifs tt)
    (he : ∀ (s : Shared) (H : Hp) (C : Addr) (cl : List (PySem.Str × Addr)) (fp : List Addr), PE (X.blk s H scope (compEnvC scope cl C X.env) fp) elt te) (hs : ∀ x, foldedSetIterable iter X.env x = pure x)
    (h : tSetC S.r S.z wi g tt te (own.map (·.2)) σ H Q)
    (hRR : ∀ D C s' m H', Inv X pins σ H' s' → Q (.ref D) H' → s'.heap.Ns C m → FpOk X pins H' C → compPost (model X.prog X.w) X.A X.xe use Qf (.ref D) C (.ok .next) s') :
    wpAny (model X.prog X.w) X.A (comprehension (.SetComp elt [⟨tg, iter, ifs, 0⟩] scope pos) scope X.env pos' (newSet (.type "set")) false (eval iter X.env) use) Qf X.xe s := by
  have cellsThere : ∀ y ∈ scope.names, y.2 = .free → ∃ c, X.env.cells.lookup y.1 = some c := fun y hy e => (ok.free y hy e).elim (fun k => I.ok.has _ (.inl k)) fun k => I.ok.has _ (.inr k)
  refine wpAny_comprehension_free (use := use) rfl hs (closure_ok cellsThere) ok.kind (fun y hy e => by rw [ok.uniq y hy, e])
    (thn (hi.run pins s σ H _ I h) fun xv sa hx => thn hx fun itv sb hb => ?_)
  obtain ⟨it, fp, tn, J, Hb, e, Ib, T, stb, fpb, q⟩ := hb
  subst e
  refine newSet_ok (newEnv_comp ?_)
  generalize eD : sb.heap.objs.size = D
  have Dn : Hb D = none := Ib.hok.fresh (Nat.le_of_eq eD)
  obtain ⟨W, ⟨m0, w0⟩, turn⟩ := q D Dn
  generalize esc : ({ sb with heap := sb.heap.push (newSetObj X.w) } : Shared) = sc
  have Ic : Inv X pins σ (upd Hb D (S.z D)) sc := by
    rw [← esc]
    refine Ib.laid (t' := sb.toks) (fun b o e => Heap.get?_push_of_some _ e) (Nat.le_of_eq eD) ?_
    rw [← eD]
    exact S.fresh _ _
  have hsc : sc.heap = sb.heap.push (newSetObj X.w) := by rw [← esc]
  have below : ∀ b ∈ fp, b < sb.heap.objs.size := fun b hb => let ⟨o, e, _⟩ := T.obj _ _ stb b hb; Heap.lt_size e
  have fpc : ∀ b ∈ fp, FpOk X pins (upd Hb D (S.z D)) b ∧ b < sc.heap.objs.size := fun b hb => by
    have l := below b hb
    refine ⟨⟨?_, (fpb b hb).2⟩, by rw [hsc, Heap.size_push]; exact Nat.lt_succ_of_lt l⟩
    rw [upd_ne (by rw [← eD]; exact Nat.ne_of_lt l)]
    exact (fpb b hb).1
  have stc : tn 0 sc.heap := T.keep _ _ _ stb fun b _ o e => by rw [hsc]; exact Heap.get?_push_of_some _ e
  have Id := block_start Ic ok hN fpc
  have pg := hg sc (upd Hb D (S.z D)) sc.heap.objs.size (cellsFrom (sc.heap.objs.size + 1) scope.names (cloFrom X.env.cells scope.names [])) fp
  have pt := ht sc (upd Hb D (S.z D)) sc.heap.objs.size (cellsFrom (sc.heap.objs.size + 1) scope.names (cloFrom X.env.cells scope.names [])) fp
  have pe := he sc (upd Hb D (S.z D)) sc.heap.objs.size (cellsFrom (sc.heap.objs.size + 1) scope.names (cloFrom X.env.cells scope.names [])) fp
  show codeAny _ _ (.compStart (.SetComp elt [⟨tg, iter, ifs, 0⟩] scope pos) 0 (.ref it) (.ref D) (compEnvC scope (cellsFrom (sc.heap.objs.size + 1) scope.names (cloFrom X.env.cells scope.names [])) sc.heap.objs.size X.env)) (compPost (model X.prog X.w) X.A X.xe use Qf (.ref D) sc.heap.objs.size) { sc with heap := pushCells (sc.heap.push { cls := .type "dict", data := .dict #[] }) scope.names }
  have nfp : ∀ b ∈ fp, (upd Hb D (S.z D)) b = none := fun b hb => (fpc b hb).1.1
  generalize hce : compEnvC scope (cellsFrom (sc.heap.objs.size + 1) scope.names (cloFrom X.env.cells scope.names [])) sc.heap.objs.size X.env = ce at Id pg pt pe ⊢
  have loc : ce.locals = sc.heap.objs.size := by subst hce; rfl
  generalize eHc : upd Hb D (S.z D) = Hc at Ic Id pg pt pe w0 nfp fpc
  generalize esd : ({ sc with heap := pushCells (sc.heap.push { cls := .type "dict", data := .dict #[] }) scope.names } : Shared) = sd at Id ⊢
  have std : tn 0 sd.heap := T.keep _ _ _ stc fun b _ o e => by rw [← esd]; exact pushCells_keeps _ _ _ _ (Heap.get?_push_of_some _ e)
  have stat : ∀ {σ' : L2.St} {H' : Hp} {s' : Shared}, Inv (X.blk sc Hc scope ce fp) [] σ' H' s' → (∀ b ∈ fp, H' b = none) → ∀ b ∈ fp, FpOk (X.blk sc Hc scope ce fp) [] H' b := fun {σ' H' s'} I' hn b hb =>
    ⟨hn b hb, (I'.ok.exf b hb).1, I'.ok.exfs b hb, .inl hb, fun x c e => (I'.ok.exf b hb).2 x c e, fun p hp => absurd (show p ∈ ([] : List (Addr × Obj)) ++ [] from hp) (by simp)⟩
  have loop : codeAny (model X.prog X.w) X.A (.compLoop (.SetComp elt [⟨tg, iter, ifs, 0⟩] scope pos) 0 (.ref it) (.ref D) ce) (compPost (model X.prog X.w) X.A X.xe use Qf (.ref D) sc.heap.objs.size) sd := by
    refine compLoopS_any (fun n s' => ∃ i H', Inv (X.blk sc Hc scope ce fp) [] (wipe σ (own.map (·.2))) H' s' ∧ tn i s'.heap ∧ (∀ b ∈ fp, H' b = none) ∧ W i n H') ?_ m0 ⟨0, Hc, Id, std, nfp, w0⟩
    rintro n s5 ⟨i, H5, I5, st5, n5, w5⟩
    rcases turn i n H5 w5 with ⟨stop, qq⟩ | ⟨go, Nx, toW, step⟩
    · refine thnF (T.done (X.blk sc Hc scope ce fp) rfl rfl rfl hc i [] s5 _ H5 (fun _ _ => False) I5 (stat I5 n5) st5 stop) fun r s6 ⟨hr, I6⟩ => ?_
      subst hr
      have I7 : Inv X pins σ H5 s6 := Ic.call' (ch := fp) I6.os I6.base I6.hok I6.bare fun b hb => ⟨(fpc b hb).1.2.2.2.1, (fpc b hb).1.2.1, (fpc b hb).1.2.2.2.2.1, (fpc b hb).1.2.2.2.2.2⟩
      have nC : H5 sc.heap.objs.size = none := loc ▸ (show H5 ce.locals = none from I6.free)
      obtain ⟨m, hn, _⟩ := I6.loc
      have hn : s6.heap.Ns ce.locals m := hn
      rw [loc] at hn
      exact hRR D sc.heap.objs.size s6 m H5 I7 qq hn (Ic.fpOk (Nat.le_refl _) nC)
    · refine thnF (T.item (X.blk sc Hc scope ce fp) rfl rfl rfl hc i [] s5 _ H5 (fun _ _ => False) I5 (stat I5 n5) st5 go) fun r s6 ⟨u, hr, h6⟩ => ?_
      subst hr
      refine thnF h6 fun _ s7 ⟨x, H7, I7, r7, y7, st7, n7⟩ => ?_
      refine thnF (pg.run _ s7 _ H7 x u _ (I7.pinned (stat I7 n7) (T.obj _ _ st7)) r7 (step x H7 y7)) fun _ s8 ⟨σ8, H8, I8, hw8, q8⟩ => ?_
      refine thnF (pt.run _ s8 σ8 H8 _ I8 q8) fun b s9 ⟨H9, I9, q9⟩ => ?_
      have fin : ∀ {s' : Shared} {H' : Hp}, Inv (X.blk sc Hc scope ce fp) ([] ++ pinsAt fp s7.heap) σ8 H' s' → Nx H' → ∃ m, m < n ∧ ∃ i H', Inv (X.blk sc Hc scope ce fp) [] (wipe σ (own.map (·.2))) H' s' ∧ tn i s'.heap ∧ (∀ b ∈ fp, H' b = none) ∧ W i m H' := fun {s' H'} I' nx => by
        obtain ⟨m', lm, w'⟩ := toW H' nx
        have pin' : ∀ b ∈ fp, ∀ o, s7.heap.get? b = some o → s'.heap.get? b = some o ∧ H' b = none := fun b hb o e =>
          let z := I'.pin (b, o) (List.mem_append_right _ (List.mem_append_right _ (mem_pinsAt hb e)))
          ⟨z.1, z.2.1⟩
        refine ⟨m', lm, i + 1, H', (I'.unpinned (pins := [])).weak (by rw [← hw8, wipe_length]) (fun j v e => ?_), T.keep _ _ _ st7 fun b hb o e => (pin' b hb o e).1, fun b hb => let ⟨o, e, _⟩ := T.obj _ _ st7 b hb; (pin' b hb o e).2, w'⟩
        rw [← hw8] at e
        exact (wipe_some e).1
      cases b with
      | false =>
        simp only [Bool.false_eq_true, if_false] at q9 ⊢
        exact fin I9 q9
      | true =>
        simp only [if_true] at q9 ⊢
        refine thnF (pe.run _ s9 σ8 H9 _ I9 q9) fun v sA ⟨y, HA, IA, rA, qA⟩ => ?_
        exact thnF (S.add (X.blk sc Hc scope ce fp) rfl rfl rfl hu _ sA σ8 HA (.ref D) [y] (.ref D) [v] _ IA rfl (.cons rA .nil) qA) fun _ sB ⟨_, HB, IB, _, nx⟩ => fin IB nx
  exact codeAny_compStart_set loop (T.self X.A 0 _ _ _ std loop)
theorem pe_setC (S : SKind X.prog X.w X.K) {elt tg iter : Expr} {ifs : List Expr} {scope : Scope} {own : List (PySem.Str × Nat)} {pos : Pos} {wi : TI} {g : TG} {tt : TT} {te : TE} (hu : X.A.units + 64 < cLine) (hc : X.calm = true) (hN : X.N.Nodup) (hi : PI X tg iter wi) (ok : BlkOk X.N X.env.scope scope own)
    (hg : ∀ (s : Shared) (H : Hp) (C : Addr) (cl : List (PySem.Str × Addr)) (fp : List Addr), PG (X.blk s H scope (compEnvC scope cl C X.env) fp) tg g) (ht : ∀ (s : Shared) (H : Hp) (C : Addr) (cl : List (PySem.Str × Addr)) (fp : List Addr), PTs (X.blk s H scope (compEnvC scope cl C X.env) fp) ifs tt)
    (he : ∀ (s : Shared) (H : Hp) (C : Addr) (cl : List (PySem.Str × Addr)) (fp : List Addr), PE (X.blk s H scope (compEnvC scope cl C X.env) fp) elt te) (hs : ∀ x, foldedSetIterable iter X.env x = pure x := by intro _; rfl) :
    PE X (.SetComp elt [⟨tg, iter, ifs, 0⟩] scope pos) (tSetC S.r S.z wi g tt te (own.map (·.2))) := by
  refine ⟨fun pins s σ H Q I h => ?_⟩
  rw [eval_SetComp]
  refine setc_core S hu hc hN I hi ok hg ht he hs h fun D C s' m H' I' q hn f => ⟨m, hn, fun h'' sb => ?_⟩
  exact ⟨.ref D, H', I'.turned (t' := s'.toks) (fun b o hb e => (sb.2 b hb).trans e) f.1 f.2.1 f.2.2.2.1 f.2.2.2.2.1 f.2.2.2.2.2, rfl, q⟩
end
/-! ### pairs -/
/-- s.add(t), t a tuple of ints -/
def rAddT (K : PySem.W.Frag) (P : Program) (w : World) : V → List V → Hp → VK → Prop := fun x xs H Q => ∃ (a t : Addr) (k : List Int) (L : List (Addr × List Int)), x = .ref a ∧ xs = [.ref t] ∧ H a = some (SetTO P w a L) ∧ (∀ p ∈ L, SqT K H p.1 (p.2.map V.int)) ∧ SqT K H t (k.map V.int) ∧ L.length + 1 < 64 ∧
  ∀ L', (k ∈ L.map (·.2) → L' = L) → (k ∉ L.map (·.2) → L'.Perm ((t, k) :: L)) → Q .non (upd H a (SetTO P w a L'))
theorem mt_addT {X : Cx} (hu : X.A.units + 64 < cLine) : MtR X "set.add" (rAddT X.K X.prog X.w) := by
  intro pins s σ H x xs v us Q I rx rxs h
  obtain ⟨a, t, k, L, rfl, rfl, ha, hL, hk, few, q⟩ := h
  cases rx
  rw [Vals.ref1 rxs]
  obtain ⟨es, ep, tb, R⟩ := (I.hok a _ ha).1.full fun p hp => I.isT (hL p hp)
  obtain ⟨o, ho, hex, hd⟩ := R.ob
  have ty : s.TypeIs (.ref a) "set" := ⟨o, ho, hex.1⟩
  refine wpAny_call_entry F.slot_set_add ty F.entry_set_add ?_ (F.args_set_add_2 _ _)
  unfold Builtin.«set.add» Builtin.Frozenset.oneOther
  simp only [List.isEmpty_nil, bind_assoc]
  unfold Builtin.Frozenset.addrOf setAdd
  refine wpAny_bind (wpAny_pure ?_)
  try dsimp only
  refine wpAny_bind (wpAny_pure ?_)
  try dsimp only
  refine wpAny_bind (wpAny_holding (wpAny_bind (wpAny_pyHash_tuple (by show _ < cLine; first | omega | (have := hu; simp only [Around.in1, Around.under, Around.units] at *; omega)) (I.isT hk) ?_)))
  refine add_at (s := { s with toks := s.toks + (k.length + 1) }) R (I.isT hk) (by show _ < cLine; first | omega | (have := hu; simp only [Around.in1, Around.under, Around.units] at *; omega)) few fun b h' L' es' ep' t' sb R' c1 c2 => ?_
  show wpAny _ _ (ret Value.none) _ _ _
  have there : ∃ u, h'.get? a = some u := let ⟨o, h1, _⟩ := R'.ob; ⟨o, h1⟩
  exact wpAny_pure ⟨_, rfl, .non, _, I.write (e := a) (t' := s.toks + (k.length + 1)) (by rw [ha]; trivial) (.inl rfl) (fun b u hb hu => (sb.2 b hb).trans hu) there (setTO_new R'.t0), rfl, q L' c1 c2⟩
def pairK (P : Program) (w : World) (K : PySem.W.Frag) : SKind P w K where
  z := fun D => SetTO P w D []
  r := rAddT K P w
  fresh := fun H h => setTO_new (setTR_fresh (P := P) (w := w) (Heap.get?_push_size _ rfl)).t0
  add := fun Y e1 e2 e3 hu => by subst e1 e2 e3; exact mt_addT hu
end K18

/-! k18: {e for .. in .. for .. in ..}; sets of ints. -/
namespace K18
open PySem PySem.Spec PyProof.Rows L2 LamX K1 PpSet

section
variable {prog : Program} {w : World} {A : Around} {R : Result → Shared → Prop} {s : Shared} {elt t0 i0 t1 i1 : Expr} {f0 f1 : List Expr} {scope : Scope} {pos : Pos} {it acc : Value} {env : Env}
abbrev twoC (elt t0 i0 t1 i1 : Expr) (f0 f1 : List Expr) (scope : Scope) (pos : Pos) : Expr := .SetComp elt [⟨t0, i0, f0, 0⟩, ⟨t1, i1, f1, 0⟩] scope pos
theorem turn_out : compTurn (twoC elt t0 i0 t1 i1 f0 f1 scope pos) 0 it acc env = (do
      standAt i0.pos
      match ← pyNext it with
      | none => pure (.done .next)
      | some v =>
        letOwnedTupleGo t0 it v
        assign t0 env v
        let mut ok := true
        for c in f0 do
          if ok then ok ← isTrue c env (eval c env)
        if ok then
          let x ← eval i1 env
          standAt i1.pos
          let x ← foldedSetIterable i1 env x
          let _ ← runOwn (.compStart (twoC elt t0 i0 t1 i1 f0 f1 scope pos) 1 (← holding [x] (pyIter x)) acc env) env
        again (.compLoop (twoC elt t0 i0 t1 i1 f0 f1 scope pos) 0 it acc env)) := by rfl
theorem turn_in : compTurn (twoC elt t0 i0 t1 i1 f0 f1 scope pos) 1 it acc env = (do
      standAt i1.pos
      match ← pyNext it with
      | none => pure (.done .next)
      | some v =>
        letOwnedTupleGo t1 it v
        assign t1 env v
        let mut ok := true
        for c in f1 do
          if ok then ok ← isTrue c env (eval c env)
        if ok then
          (do let v ← eval elt env; standAt elt.pos; let _ ← call (.builtin "set.add") [acc, v])
        again (.compLoop (twoC elt t0 i0 t1 i1 f0 f1 scope pos) 1 it acc env)) := by rfl
theorem loop_out (hs : ∀ x, foldedSetIterable i1 env x = pure x) (I : Nat → Shared → Prop)
    (turn : ∀ n s, I n s → wpAny (model prog w) A (pyNext it) (fun r sa => match r with
      | none => R (.ok .next) sa
      | some v => wpAny (model prog w) A (letOwnedTupleGo t0 it v) (fun _ sb => wpAny (model prog w) A (assign t0 env v) (fun _ sc =>
          wpAny (model prog w) A (forIn f0 true fun c r => if r = true then do let ok ← isTrue c env (eval c env); pure (ForInStep.yield ok) else pure (ForInStep.yield r)) (fun ok sd =>
            if ok = true then wpAny (model prog w) A (eval i1 env) (fun x se => wpAny (model prog w) A (pyIter x) (fun it1 sf =>
              codeAny (model prog w) A (.compStart (twoC elt t0 i0 t1 i1 f0 f1 scope pos) 1 it1 acc env) (fun r s' => match r with
                | .ok _ => ∃ m, m < n ∧ I m s'
                | .error _ => False) sf) (notedBy (model prog w) A env fun e s' => R (.error e) s') se) (notedBy (model prog w) A env fun e s' => R (.error e) s') sd
            else ∃ m, m < n ∧ I m sd) (notedBy (model prog w) A env fun e s' => R (.error e) s') sc) (notedBy (model prog w) A env fun e s' => R (.error e) s') sb) (notedBy (model prog w) A env fun e s' => R (.error e) s') sa) (notedBy (model prog w) A env fun e s' => R (.error e) s') s)
    (n : Nat) (h : I n s) : codeAny (model prog w) A (.compLoop (twoC elt t0 i0 t1 i1 f0 f1 scope pos) 0 it acc env) R s := by
  refine codeAny_loop rfl I (fun n s hI => ?_) n h
  show wpAny _ A ((compTurn (twoC elt t0 i0 t1 i1 f0 f1 scope pos) 0 it acc env).onRaise (fun x => do noteFrame x env; theTreesLotGoes x)) _ _ s
  refine wpAny_noted ?_
  rw [turn_out]
  refine wpAny_bind (wpAny_standAt (wpAny_bind (wpAny_mono (turn n s hI) (fun r sa ha => ?_) fun _ _ z => z)))
  rcases r with _ | v
  · exact wpAny_pure ha
  · refine wpAny_bind (wpAny_mono ha (fun _ sb hb => wpAny_bind (wpAny_mono hb (fun _ sc hc => wpAny_bind (wpAny_mono hc (fun ok sd hd => ?_) fun _ _ z => z)) fun _ _ z => z)) fun _ _ z => z)
    cases ok with
    | false => exact wpAny_pure ⟨rfl, hd⟩
    | true =>
      refine wpAny_bind (wpAny_mono hd (fun x se he => ?_) fun _ _ z => z)
      refine wpAny_bind (wpAny_standAt (wpAny_bind (wpAny_of_eq (hs x) (wpAny_bind (wpAny_holding (wpAny_mono he (fun it1 sf hf => ?_) fun _ _ z => z))))))
      refine wpAny_bind (wpAny_runOwn ?_)
      rw [Around.mark_none]
      refine codeAny_mono hf fun r s' hr => ?_
      rcases r with e | f
      · exact hr.elim
      · first
          | exact wpAny_pure ⟨rfl, hr⟩
          | exact wpAny_bind (wpAny_pure (wpAny_pure ⟨rfl, hr⟩))
theorem loop_in (I : Nat → Shared → Prop)
    (turn : ∀ n s, I n s → wpAny (model prog w) A (pyNext it) (fun r sa => match r with
      | none => R (.ok .next) sa
      | some v => wpAny (model prog w) A (letOwnedTupleGo t1 it v) (fun _ sb => wpAny (model prog w) A (assign t1 env v) (fun _ sc =>
          wpAny (model prog w) A (forIn f1 true fun c r => if r = true then do let ok ← isTrue c env (eval c env); pure (ForInStep.yield ok) else pure (ForInStep.yield r)) (fun ok sd =>
            if ok = true then wpAny (model prog w) A (eval elt env) (fun x se =>
              wpAny (model prog w) A (call (.builtin "set.add") [acc, x]) (fun _ sf => ∃ m, m < n ∧ I m sf) (notedBy (model prog w) A env fun e s' => R (.error e) s') se) (notedBy (model prog w) A env fun e s' => R (.error e) s') sd
            else ∃ m, m < n ∧ I m sd) (notedBy (model prog w) A env fun e s' => R (.error e) s') sc) (notedBy (model prog w) A env fun e s' => R (.error e) s') sb) (notedBy (model prog w) A env fun e s' => R (.error e) s') sa) (notedBy (model prog w) A env fun e s' => R (.error e) s') s)
    (n : Nat) (h : I n s) : codeAny (model prog w) A (.compLoop (twoC elt t0 i0 t1 i1 f0 f1 scope pos) 1 it acc env) R s := by
  refine codeAny_loop rfl I (fun n s hI => ?_) n h
  show wpAny _ A ((compTurn (twoC elt t0 i0 t1 i1 f0 f1 scope pos) 1 it acc env).onRaise (fun x => do noteFrame x env; theTreesLotGoes x)) _ _ s
  refine wpAny_noted ?_
  rw [turn_in]
  refine wpAny_bind (wpAny_standAt (wpAny_bind (wpAny_mono (turn n s hI) (fun r sa ha => ?_) fun _ _ z => z)))
  rcases r with _ | v
  · exact wpAny_pure ha
  · refine wpAny_bind (wpAny_mono ha (fun _ sb hb => wpAny_bind (wpAny_mono hb (fun _ sc hc => wpAny_bind (wpAny_mono hc (fun ok sd hd => ?_) fun _ _ z => z)) fun _ _ z => z)) fun _ _ z => z)
    cases ok with
    | false => exact wpAny_pure ⟨rfl, hd⟩
    | true => exact wpAny_bind (wpAny_bind (wpAny_mono hd (fun x se he => wpAny_bind (wpAny_standAt (wpAny_bind (wpAny_mono he (fun _ sf hf => wpAny_pure (wpAny_pure ⟨rfl, hf⟩)) fun _ _ z => z)))) fun _ _ z => z))
theorem start_in (h0 : codeAny (model prog w) A (.compLoop (twoC elt t0 i0 t1 i1 f0 f1 scope pos) 1 it acc env) R s)
    (h : wpAny (model prog w) A (pyIter it) (fun itx s' => codeAny (model prog w) A (.compLoop (twoC elt t0 i0 t1 i1 f0 f1 scope pos) 1 itx acc env) R s') (notedBy (model prog w) A env fun x s' => R (.error x) s') s) :
    codeAny (model prog w) A (.compStart (twoC elt t0 i0 t1 i1 f0 f1 scope pos) 1 it acc env) R s := by
  refine codeAny_of_tree ?_
  show wpAny _ _ ((compStart (twoC elt t0 i0 t1 i1 f0 f1 scope pos) 1 it acc env).onRaise (fun x => do noteFrame x env; standAt theWindowsPlace)) _ _ s
  refine wpAny_notedAt ?_
  unfold compStart
  show wpAny _ _ (ask >>= _) _ _ s
  refine wpAny_bind (wpAny_askSetting (wpAny_ite ?_))
  split
  · first
      | exact wpAny_bind (wpAny_pure (wpAny_pure ⟨rfl, h0⟩))
      | exact wpAny_pure ⟨rfl, h0⟩
  · first
      | exact wpAny_bind (wpAny_rule (wpAny_bind (wpAny_standAt (wpAny_bind (wpAny_mono h (fun itx s' hx => wpAny_pure ⟨rfl, hx⟩) fun _ _ z => z)))))
      | (refine wpAny_bind (wpAny_rule ?_); show wpAny _ _ (standAt i1.pos >>= _) _ _ s; exact wpAny_bind (wpAny_standAt (wpAny_bind (wpAny_mono h (fun itx s' hx => wpAny_pure ⟨rfl, hx⟩) fun _ _ z => z))))
end
section
variable {X : Cx}
def tSetC2 (r : V → List V → Hp → VK → Prop) (z : Addr → HO) (wi : TI) (g : TG) (tt : TT) (wi1 : TI) (g1 : TG) (tt1 : TT) (te : TE) (vs vs1 : List Nat) : TE := fun σ H Q => wi σ H fun J H1 => ∀ D, H1 D = none → ∃ W : Nat → Nat → Hp → Prop, (∃ m, W 0 m (upd H1 D (z D))) ∧ ∀ i m H, W i m H →
  (J.stop i H ∧ Q (.ref D) H) ∨ (J.go i H ∧ ∃ Nx : Hp → Prop, (∀ H', Nx H' → ∃ m', m' < m ∧ W (i + 1) m' H') ∧ ∀ x H', J.yld i H x H' → g x (wipe σ vs) H' fun σ2 H2 => wipe σ2 vs = wipe σ vs ∧ tt σ2 H2 fun b H3 =>
    if b = true then wi1 σ2 H3 fun J1 H4 => ∃ W1 : Nat → Nat → Hp → Prop, (∃ m, W1 0 m H4) ∧ ∀ j k H, W1 j k H →
      (J1.stop j H ∧ Nx H) ∨ (J1.go j H ∧ ∃ Nx1 : Hp → Prop, (∀ H', Nx1 H' → ∃ k', k' < k ∧ W1 (j + 1) k' H') ∧ ∀ x H', J1.yld j H x H' → g1 x (wipe σ2 vs1) H' fun σ3 H5 => wipe σ3 vs1 = wipe σ2 vs1 ∧ tt1 σ3 H5 fun b H6 =>
        if b = true then te σ3 H6 fun y H7 => r (.ref D) [y] H7 fun _ H8 => Nx1 H8 else Nx1 H6)
    else Nx H3)
theorem setc2_core (S : SKind X.prog X.w X.K) {pins : List (Addr × Obj)} {s : Shared} {σ : L2.St} {H : Hp} {Q : VK} {elt tg iter tg1 iter1 : Expr} {ifs ifs1 : List Expr} {scope : Scope} {own : List (PySem.Str × Nat)} {vs1 : List Nat} {pos pos' : Pos} {wi wi1 : TI} {g g1 : TG} {tt tt1 : TT} {te : TE} {use : Option (Value → Sem Unit)} {Qf : Value → Shared → Prop}
    (hu : X.A.units + 64 < cLine) (hc : X.calm = true) (hN : X.N.Nodup) (I : Inv X pins σ H s) (hi : PI X tg iter wi) (ok : BlkOk X.N X.env.scope scope own) (hv : ∀ i ∈ vs1, i ∈ own.map (·.2))
    (hg : ∀ (s : Shared) (H : Hp) (C : Addr) (cl : List (PySem.Str × Addr)) (fp : List Addr), PG (X.blk s H scope (compEnvC scope cl C X.env) fp) tg g) (ht : ∀ (s : Shared) (H : Hp) (C : Addr) (cl : List (PySem.Str × Addr)) (fp : List Addr), PTs (X.blk s H scope (compEnvC scope cl C X.env) fp) ifs tt)
    (he : ∀ (s : Shared) (H : Hp) (C : Addr) (cl : List (PySem.Str × Addr)) (fp : List Addr), PE (X.blk s H scope (compEnvC scope cl C X.env) fp) elt te) (hs : ∀ x, foldedSetIterable iter X.env x = pure x)
    (hi1 : ∀ (s : Shared) (H : Hp) (C : Addr) (cl : List (PySem.Str × Addr)) (fp : List Addr), PI (X.blk s H scope (compEnvC scope cl C X.env) fp) tg1 iter1 wi1)
    (hg1 : ∀ (s : Shared) (H : Hp) (C : Addr) (cl : List (PySem.Str × Addr)) (fp : List Addr), PG (X.blk s H scope (compEnvC scope cl C X.env) fp) tg1 g1)
    (ht1 : ∀ (s : Shared) (H : Hp) (C : Addr) (cl : List (PySem.Str × Addr)) (fp : List Addr), PTs (X.blk s H scope (compEnvC scope cl C X.env) fp) ifs1 tt1)
    (hs1 : ∀ env x, foldedSetIterable iter1 env x = pure x) (h : tSetC2 S.r S.z wi g tt wi1 g1 tt1 te (own.map (·.2)) vs1 σ H Q)
    (hRR : ∀ D C s' m H', Inv X pins σ H' s' → Q (.ref D) H' → s'.heap.Ns C m → FpOk X pins H' C → compPost (model X.prog X.w) X.A X.xe use Qf (.ref D) C (.ok .next) s') :
    wpAny (model X.prog X.w) X.A (comprehension (twoC elt tg iter tg1 iter1 ifs ifs1 scope pos) scope X.env pos' (newSet (.type "set")) false (eval iter X.env) use) Qf X.xe s := by
  have cellsThere : ∀ y ∈ scope.names, y.2 = .free → ∃ c, X.env.cells.lookup y.1 = some c := fun y hy e => (ok.free y hy e).elim (fun k => I.ok.has _ (.inl k)) fun k => I.ok.has _ (.inr k)
  refine wpAny_comprehension_free (use := use) rfl hs (closure_ok cellsThere) ok.kind (fun y hy e => by rw [ok.uniq y hy, e])
    (thn (hi.run pins s σ H _ I h) fun xv sa hx => thn hx fun itv sb hb => ?_)
  obtain ⟨it, fp, tn, J, Hb, e, Ib, T, stb, fpb, q⟩ := hb
  subst e
  refine newSet_ok (newEnv_comp ?_)
  generalize eD : sb.heap.objs.size = D
  have Dn : Hb D = none := Ib.hok.fresh (Nat.le_of_eq eD)
  obtain ⟨W, ⟨m0, w0⟩, turn⟩ := q D Dn
  generalize esc : ({ sb with heap := sb.heap.push (newSetObj X.w) } : Shared) = sc
  have Ic : Inv X pins σ (upd Hb D (S.z D)) sc := by
    rw [← esc]
    refine Ib.laid (t' := sb.toks) (fun b o e => Heap.get?_push_of_some _ e) (Nat.le_of_eq eD) ?_
    rw [← eD]
    exact S.fresh _ _
  have hsc : sc.heap = sb.heap.push (newSetObj X.w) := by rw [← esc]
  have below : ∀ b ∈ fp, b < sb.heap.objs.size := fun b hb => let ⟨o, e, _⟩ := T.obj _ _ stb b hb; Heap.lt_size e
  have fpc : ∀ b ∈ fp, FpOk X pins (upd Hb D (S.z D)) b ∧ b < sc.heap.objs.size := fun b hb => by
    have l := below b hb
    refine ⟨⟨?_, (fpb b hb).2⟩, by rw [hsc, Heap.size_push]; exact Nat.lt_succ_of_lt l⟩
    rw [upd_ne (by rw [← eD]; exact Nat.ne_of_lt l)]
    exact (fpb b hb).1
  have stc : tn 0 sc.heap := T.keep _ _ _ stb fun b _ o e => by rw [hsc]; exact Heap.get?_push_of_some _ e
  have Id := block_start Ic ok hN fpc
  have pg := hg sc (upd Hb D (S.z D)) sc.heap.objs.size (cellsFrom (sc.heap.objs.size + 1) scope.names (cloFrom X.env.cells scope.names [])) fp
  have pt := ht sc (upd Hb D (S.z D)) sc.heap.objs.size (cellsFrom (sc.heap.objs.size + 1) scope.names (cloFrom X.env.cells scope.names [])) fp
  have pe := he sc (upd Hb D (S.z D)) sc.heap.objs.size (cellsFrom (sc.heap.objs.size + 1) scope.names (cloFrom X.env.cells scope.names [])) fp
  have qi := hi1 sc (upd Hb D (S.z D)) sc.heap.objs.size (cellsFrom (sc.heap.objs.size + 1) scope.names (cloFrom X.env.cells scope.names [])) fp
  have qg := hg1 sc (upd Hb D (S.z D)) sc.heap.objs.size (cellsFrom (sc.heap.objs.size + 1) scope.names (cloFrom X.env.cells scope.names [])) fp
  have qt := ht1 sc (upd Hb D (S.z D)) sc.heap.objs.size (cellsFrom (sc.heap.objs.size + 1) scope.names (cloFrom X.env.cells scope.names [])) fp
  show codeAny _ _ (.compStart (twoC elt tg iter tg1 iter1 ifs ifs1 scope pos) 0 (.ref it) (.ref D) (compEnvC scope (cellsFrom (sc.heap.objs.size + 1) scope.names (cloFrom X.env.cells scope.names [])) sc.heap.objs.size X.env)) (compPost (model X.prog X.w) X.A X.xe use Qf (.ref D) sc.heap.objs.size) { sc with heap := pushCells (sc.heap.push { cls := .type "dict", data := .dict #[] }) scope.names }
  have nfp : ∀ b ∈ fp, (upd Hb D (S.z D)) b = none := fun b hb => (fpc b hb).1.1
  generalize hce : compEnvC scope (cellsFrom (sc.heap.objs.size + 1) scope.names (cloFrom X.env.cells scope.names [])) sc.heap.objs.size X.env = ce at Id pg pt pe qi qg qt ⊢
  have loc : ce.locals = sc.heap.objs.size := by subst hce; rfl
  generalize eHc : upd Hb D (S.z D) = Hc at Ic Id pg pt pe qi qg qt w0 nfp fpc
  generalize esd : ({ sc with heap := pushCells (sc.heap.push { cls := .type "dict", data := .dict #[] }) scope.names } : Shared) = sd at Id ⊢
  have std : tn 0 sd.heap := T.keep _ _ _ stc fun b _ o e => by rw [← esd]; exact pushCells_keeps _ _ _ _ (Heap.get?_push_of_some _ e)
  have stat : ∀ {σ' : L2.St} {H' : Hp} {s' : Shared}, Inv (X.blk sc Hc scope ce fp) [] σ' H' s' → (∀ b ∈ fp, H' b = none) → ∀ b ∈ fp, FpOk (X.blk sc Hc scope ce fp) [] H' b := fun {σ' H' s'} I' hn b hb =>
    ⟨hn b hb, (I'.ok.exf b hb).1, I'.ok.exfs b hb, .inl hb, fun x c e => (I'.ok.exf b hb).2 x c e, fun p hp => absurd (show p ∈ ([] : List (Addr × Obj)) ++ [] from hp) (by simp)⟩
  have loop : codeAny (model X.prog X.w) X.A (.compLoop (twoC elt tg iter tg1 iter1 ifs ifs1 scope pos) 0 (.ref it) (.ref D) ce) (compPost (model X.prog X.w) X.A X.xe use Qf (.ref D) sc.heap.objs.size) sd := by
    refine loop_out (hs1 ce) (fun n s' => ∃ i H', Inv (X.blk sc Hc scope ce fp) [] (wipe σ (own.map (·.2))) H' s' ∧ tn i s'.heap ∧ (∀ b ∈ fp, H' b = none) ∧ W i n H') ?_ m0 ⟨0, Hc, Id, std, nfp, w0⟩
    rintro n s5 ⟨i, H5, I5, st5, n5, w5⟩
    rcases turn i n H5 w5 with ⟨stop, qq⟩ | ⟨go, Nx, toW, step⟩
    · refine thnF (T.done (X.blk sc Hc scope ce fp) rfl rfl rfl hc i [] s5 _ H5 (fun _ _ => False) I5 (stat I5 n5) st5 stop) fun r s6 ⟨hr, I6⟩ => ?_
      subst hr
      have I7 : Inv X pins σ H5 s6 := Ic.call' (ch := fp) I6.os I6.base I6.hok I6.bare fun b hb => ⟨(fpc b hb).1.2.2.2.1, (fpc b hb).1.2.1, (fpc b hb).1.2.2.2.2.1, (fpc b hb).1.2.2.2.2.2⟩
      have nC : H5 sc.heap.objs.size = none := loc ▸ (show H5 ce.locals = none from I6.free)
      obtain ⟨m, hn, _⟩ := I6.loc
      have hn : s6.heap.Ns ce.locals m := hn
      rw [loc] at hn
      exact hRR D sc.heap.objs.size s6 m H5 I7 qq hn (Ic.fpOk (Nat.le_refl _) nC)
    · refine thnF (T.item (X.blk sc Hc scope ce fp) rfl rfl rfl hc i [] s5 _ H5 (fun _ _ => False) I5 (stat I5 n5) st5 go) fun r s6 ⟨u, hr, h6⟩ => ?_
      subst hr
      refine thnF h6 fun _ s7 ⟨x, H7, I7, r7, y7, st7, n7⟩ => ?_
      refine thnF (pg.run _ s7 _ H7 x u _ (I7.pinned (stat I7 n7) (T.obj _ _ st7)) r7 (step x H7 y7)) fun _ s8 ⟨σ8, H8, I8, hw8, q8⟩ => ?_
      refine thnF (pt.run _ s8 σ8 H8 _ I8 q8) fun b s9 ⟨H9, I9, q9⟩ => ?_
      have fin : ∀ {σ9 : L2.St} {s' : Shared} {H' : Hp}, Inv (X.blk sc Hc scope ce fp) ([] ++ pinsAt fp s7.heap) σ9 H' s' → (wipe σ (own.map (·.2))).length = σ9.length → (∀ (j : Nat) v, (wipe σ (own.map (·.2)))[j]? = some (some v) → σ9[j]? = some (some v)) → Nx H' →
          ∃ m, m < n ∧ ∃ i H', Inv (X.blk sc Hc scope ce fp) [] (wipe σ (own.map (·.2))) H' s' ∧ tn i s'.heap ∧ (∀ b ∈ fp, H' b = none) ∧ W i m H' := fun {σ9 s' H'} I' hl hk nx => by
        obtain ⟨m', lm, w'⟩ := toW H' nx
        have pin' : ∀ b ∈ fp, ∀ o, s7.heap.get? b = some o → s'.heap.get? b = some o ∧ H' b = none := fun b hb o e =>
          let z := I'.pin (b, o) (List.mem_append_right _ (List.mem_append_right _ (mem_pinsAt hb e)))
          ⟨z.1, z.2.1⟩
        exact ⟨m', lm, i + 1, H', (I'.unpinned (pins := [])).weak hl hk, T.keep _ _ _ st7 fun b hb o e => (pin' b hb o e).1, fun b hb => let ⟨o, e, _⟩ := T.obj _ _ st7 b hb; (pin' b hb o e).2, w'⟩
      have l8 : (wipe σ (own.map (·.2))).length = σ8.length := by rw [← hw8, wipe_length]
      have k8 : ∀ (j : Nat) v, (wipe σ (own.map (·.2)))[j]? = some (some v) → σ8[j]? = some (some v) := fun j v e => by
        rw [← hw8] at e
        exact (wipe_some e).1
      have k9 : ∀ (j : Nat) v, (wipe σ (own.map (·.2)))[j]? = some (some v) → (wipe σ8 vs1)[j]? = some (some v) := fun j v e => by
        rw [← hw8] at e
        obtain ⟨e1, e2⟩ := wipe_some e
        rw [wipe_out fun z => e2 (hv j z)]
        exact e1
      cases b with
      | false =>
        simp only [Bool.false_eq_true, if_false] at q9 ⊢
        exact fin I9 l8 k8 q9
      | true =>
        simp only [if_true] at q9 ⊢
        refine thnF (qi.run _ s9 σ8 H9 _ I9 q9) fun xv sA hx => thnF hx fun itv sB hB => ?_
        obtain ⟨it1, fp1, tn1, J1, HB, e1, IB, T1, stB, fB, W1, ⟨m1, w1⟩, turn1⟩ := hB
        subst e1
        have stat1 : ∀ {H' : Hp}, (∀ b ∈ fp1, H' b = none) → ∀ b ∈ fp1, FpOk (X.blk sc Hc scope ce fp) ([] ++ pinsAt fp s7.heap) H' b := fun hn b hb => ⟨hn b hb, (fB b hb).2⟩
        have inner : codeAny (model X.prog X.w) X.A (.compLoop (twoC elt tg iter tg1 iter1 ifs ifs1 scope pos) 1 (.ref it1) (.ref D) ce)
            (fun r s' => match r with
              | .ok _ => ∃ m, m < n ∧ ∃ i H', Inv (X.blk sc Hc scope ce fp) [] (wipe σ (own.map (·.2))) H' s' ∧ tn i s'.heap ∧ (∀ b ∈ fp, H' b = none) ∧ W i m H'
              | .error _ => False) sB := by
          refine loop_in (fun k s' => ∃ j H', Inv (X.blk sc Hc scope ce fp) ([] ++ pinsAt fp s7.heap) (wipe σ8 vs1) H' s' ∧ tn1 j s'.heap ∧ (∀ b ∈ fp1, H' b = none) ∧ W1 j k H') ?_ m1 ⟨0, HB, IB.weak (wipe_length _ _) (fun j v e => (wipe_some e).1), stB, fun b hb => (fB b hb).1, w1⟩
          rintro k sC ⟨j, HC, IC, stC, nC, wC⟩
          rcases turn1 j k HC wC with ⟨stop1, nx1⟩ | ⟨go1, Nx1, toW1, step1⟩
          · refine thnF (T1.done (X.blk sc Hc scope ce fp) rfl rfl rfl hc j _ sC (wipe σ8 vs1) HC (fun _ _ => False) IC (stat1 nC) stC stop1) fun r sE ⟨hr, IE⟩ => ?_
            subst hr
            exact fin IE (l8.trans (wipe_length σ8 vs1).symm) k9 nx1
          · refine thnF (T1.item (X.blk sc Hc scope ce fp) rfl rfl rfl hc j _ sC (wipe σ8 vs1) HC (fun _ _ => False) IC (stat1 nC) stC go1) fun r sE ⟨u1, hr, hE⟩ => ?_
            subst hr
            refine thnF hE fun _ sF ⟨x1, HF, IF, rF, yF, stF, nF⟩ => ?_
            refine thnF (qg.run _ sF (wipe σ8 vs1) HF x1 u1 _ (IF.pinned (stat1 nF) (T1.obj _ _ stF)) rF (step1 x1 HF yF)) fun _ sG ⟨σG, HG, IG, hwG, qG⟩ => ?_
            refine thnF (qt.run _ sG σG HG _ IG qG) fun b1 sI ⟨HI, II, qI⟩ => ?_
            have fin1 : ∀ {s' : Shared} {H' : Hp}, Inv (X.blk sc Hc scope ce fp) (([] ++ pinsAt fp s7.heap) ++ pinsAt fp1 sF.heap) σG H' s' → Nx1 H' → ∃ m, m < k ∧ ∃ j H', Inv (X.blk sc Hc scope ce fp) ([] ++ pinsAt fp s7.heap) (wipe σ8 vs1) H' s' ∧ tn1 j s'.heap ∧ (∀ b ∈ fp1, H' b = none) ∧ W1 j m H' := fun {s' H'} I' nx => by
              obtain ⟨m', lm, w'⟩ := toW1 H' nx
              have pin' : ∀ b ∈ fp1, ∀ o, sF.heap.get? b = some o → s'.heap.get? b = some o ∧ H' b = none := fun b hb o e =>
                let z := I'.pin (b, o) (List.mem_append_right _ (List.mem_append_right _ (mem_pinsAt hb e)))
                ⟨z.1, z.2.1⟩
              exact ⟨m', lm, j + 1, H', I'.unpinned.weak (by rw [← hwG, wipe_length]) (fun j v e => by rw [← hwG] at e; exact (wipe_some e).1), T1.keep _ _ _ stF fun b hb o e => (pin' b hb o e).1, fun b hb => let ⟨o, e, _⟩ := T1.obj _ _ stF b hb; (pin' b hb o e).2, w'⟩
            cases b1 with
            | false =>
              simp only [Bool.false_eq_true, if_false] at qI ⊢
              exact fin1 II qI
            | true =>
              simp only [if_true] at qI ⊢
              refine thnF (pe.run _ sI σG HI _ II qI) fun v sJ ⟨y, HJ, IJ, rJ, qJ⟩ => ?_
              exact thnF (S.add (X.blk sc Hc scope ce fp) rfl rfl rfl hu _ sJ σG HJ (.ref D) [y] (.ref D) [v] _ IJ rfl (.cons rJ .nil) qJ) fun _ sK ⟨_, HK, IK, _, nx⟩ => fin1 IK nx
        exact start_in inner (T1.self X.A 0 _ _ _ stB inner)
  exact codeAny_compStart_set loop (T.self X.A 0 _ _ _ std loop)
theorem pe_setC2 (S : SKind X.prog X.w X.K) {elt tg iter tg1 iter1 : Expr} {ifs ifs1 : List Expr} {scope : Scope} {own : List (PySem.Str × Nat)} {vs1 : List Nat} {pos : Pos} {wi wi1 : TI} {g g1 : TG} {tt tt1 : TT} {te : TE} (hu : X.A.units + 64 < cLine) (hc : X.calm = true) (hN : X.N.Nodup) (hi : PI X tg iter wi) (ok : BlkOk X.N X.env.scope scope own) (hv : ∀ i ∈ vs1, i ∈ own.map (·.2))
    (hg : ∀ (s : Shared) (H : Hp) (C : Addr) (cl : List (PySem.Str × Addr)) (fp : List Addr), PG (X.blk s H scope (compEnvC scope cl C X.env) fp) tg g) (ht : ∀ (s : Shared) (H : Hp) (C : Addr) (cl : List (PySem.Str × Addr)) (fp : List Addr), PTs (X.blk s H scope (compEnvC scope cl C X.env) fp) ifs tt)
    (hi1 : ∀ (s : Shared) (H : Hp) (C : Addr) (cl : List (PySem.Str × Addr)) (fp : List Addr), PI (X.blk s H scope (compEnvC scope cl C X.env) fp) tg1 iter1 wi1)
    (hg1 : ∀ (s : Shared) (H : Hp) (C : Addr) (cl : List (PySem.Str × Addr)) (fp : List Addr), PG (X.blk s H scope (compEnvC scope cl C X.env) fp) tg1 g1) (ht1 : ∀ (s : Shared) (H : Hp) (C : Addr) (cl : List (PySem.Str × Addr)) (fp : List Addr), PTs (X.blk s H scope (compEnvC scope cl C X.env) fp) ifs1 tt1)
    (he : ∀ (s : Shared) (H : Hp) (C : Addr) (cl : List (PySem.Str × Addr)) (fp : List Addr), PE (X.blk s H scope (compEnvC scope cl C X.env) fp) elt te) (hs : ∀ x, foldedSetIterable iter X.env x = pure x := by intro _; rfl) (hs1 : ∀ env x, foldedSetIterable iter1 env x = pure x := by intro _ _; rfl) :
    PE X (twoC elt tg iter tg1 iter1 ifs ifs1 scope pos) (tSetC2 S.r S.z wi g tt wi1 g1 tt1 te (own.map (·.2)) vs1) := by
  refine ⟨fun pins s σ H Q I h => ?_⟩
  rw [eval_SetComp]
  refine setc2_core S hu hc hN I hi ok hv hg ht he hs hi1 hg1 ht1 hs1 h fun D C s' m H' I' q hn f => ⟨m, hn, fun h'' sb => ?_⟩
  exact ⟨.ref D, H', I'.turned (t' := s'.toks) (fun b o hb e => (sb.2 b hb).trans e) f.1 f.2.1 f.2.2.2.1 f.2.2.2.2.1 f.2.2.2.2.2, rfl, q⟩
end
/-- sets of ints -/
def intK (P : Program) (w : World) (K : PySem.W.Frag) : SKind P w K where
  z := fun D => SetO w D (fun _ => false) 0
  r := rSAdd w
  fresh := fun H h => setO_new (setR_fresh w)
  add := fun Y e1 e2 e3 _ => by subst e1 e2 e3; exact mt_sadd
end K18

/-! k18: try .. with several `except X as n`; isinstance of a caught exception that has a dict. -/
namespace K18
open PySem PySem.Spec PyProof.Rows L2 LamX K1

/-- the clauses' wishes, n in slot i: behind a suite the name is gone -/
def wAsMany (K : PySem.W.Frag) (i : Nat) (Wout : WX) (D : Ends) : List (Value × (Addr → Value → Option Addr → TS)) → WX
  | [] => Wout
  | (c, ts) :: r => fun cls d σ H => ∃ b, PySem.W.exmOne K cls c = some b ∧
      (b = true → ∀ a, H a = none → ts a cls d { nx := fun σ' H' => D.nx (σ'.set i none) H', rt := D.rt, bk := fun σ' H' => D.bk (σ'.set i none) H', ct := fun σ' H' => D.ct (σ'.set i none) H' } (σ.set i (some (.ref a))) H) ∧ (b = false → wAsMany K i Wout D r cls d σ H)
inductive AsOk (X : Cx) (n : Str) : List ExceptHandler → List (Value × (Addr → Value → Option Addr → TS)) → Prop
  | nil : AsOk X n [] []
  | cons {x : Str} {c : Value} {ts : Addr → Value → Option Addr → TS} {b1 : Stmt} {more : List Stmt} {np p2 : Pos} {hds : List ExceptHandler} {l : List (Value × (Addr → Value → Option Addr → TS))} (hc : Names X x c)
      (hsu : ∀ (a : Addr) (oe : Obj) (cls : Value) (d : Option Addr) (pn : List (Addr × Obj)), Zc cls d oe → (∃ vs, oe.data = .fields vs) → PSs (X.suite a ((a, oe) :: pn)) (b1 :: more) (ts a cls d)) (r : AsOk X n hds l) :
      AsOk X n (.ExceptHandler (some (.Name x np)) (some n) (b1 :: more) p2 :: hds) ((c, ts) :: l)
theorem ps_try_manyAs {X : Cx} {body : List Stmt} {h1 : ExceptHandler} {hds : List ExceptHandler} {l : List (Value × (Addr → Value → Option Addr → TS))} {pos : Pos} {tb : WX → TS} {Wout : WX} {i : Nat} {n : Str} (st : X.stack = X.env :: X.outer) (hf : X.env.frame = some X.env.locals) (hN : X.N.Nodup) (hi : X.N[i]? = some n) (hln : X.env.kindOf n = some .local) (tk : Takes X Wout)
    (hb : ∀ (W : WX) (pn : List (Addr × Obj)) (xe : Value → Shared → Prop), Takes (X.tr pn xe) W → PassesOwn (model X.prog X.w) X.A X.env xe → PSs (X.tr pn xe) body (tb W))
    (hh : AsOk X n (h1 :: hds) l) : PS X (.Try body (h1 :: hds) [] [] pos) (fun D σ H => tb (wAsMany X.K i Wout D l) D σ H) := by
  refine ⟨fun pins s σ H D I h => ?_⟩
  have ok := I.ok
  have fr : X.A.frames = some (X.env :: X.outer) := by rw [ok.frames, st]
  have hloc : Loc X.env.scope n := .inl hln
  refine wpAny_Try_except ?_
  refine wpAny_mono ((hb (wAsMany X.K i Wout D l) (X.pn ++ pins) (fun e sx => wpAny (model X.prog X.w) X.A (noteFrame e X.env) (fun _ sy => wpAny (model X.prog X.w) X.A (setFlight e none) (fun _ sz =>
    wpAny (model X.prog X.w) X.A (handleBy e X.env (h1 :: hds)) (SP X pins D) X.xe sz) X.xe sy) X.xe sx) (fun u s' xx => ?_) PassesOwn.looking).run [] s σ H D (I.toTry _) h) (fun f sx q => ?_) (fun e sx he => he)
  · obtain ⟨a, B, sI, pn2, τ, G, cls, d, rfl, J', nb, up, sky, na, os, ag, w⟩ := xx
    have J : Inv X pins τ G sI := J'.ofTry ok
    have sky2 : Sky B (X.env :: X.outer) a (Zc cls d) X.env.locals s'.heap := by rw [← st]; exact sky
    show wpAny (model X.prog X.w) X.A (noteFrame (.ref a) X.env) _ _ _
    refine Sky.land Zc.steady fr hf sky2 fun g3 fl3 up3 => ?_
    have J3 : Inv X pins τ G { s' with heap := g3 } := J.landed nb fl3.1 (up.trans up3) os ag
    obtain ⟨oe3, vs3, he3, hz3, hd3⟩ := fl3.there
    have nfr : a ∉ frs (X.env :: X.outer) := fun hm => by
      obtain ⟨_, o', e', hnf⟩ := fl3.2.2.1.mem hm
      rw [he3] at e'; cases e'
      exact hnf _ hd3
    have nL : a ≠ X.env.locals := fun z => nfr (List.mem_filterMap.mpr ⟨X.env, List.mem_cons_self, by rw [hf, z]⟩)
    have nF : a ∉ X.fs := fun hm => by
      obtain ⟨e, he, q⟩ := List.mem_filterMap.mp hm
      exact nfr (List.mem_filterMap.mpr ⟨e, List.mem_cons_of_mem _ he, q⟩)
    have S3 := J3.suite he3 hd3 na nL nF
    have go : ∀ {hs2 : List ExceptHandler} {l2 : List (Value × (Addr → Value → Option Addr → TS))}, AsOk X n hs2 l2 → wAsMany X.K i Wout D l2 cls d τ G →
        wpAny (model X.prog X.w) X.A (handleBy (.ref a) X.env hs2) (SP X pins D) X.xe { s' with heap := g3 } := by
      intro hs2 l2 hk
      induction hk with
      | nil =>
        intro w
        refine wpAny_handleBy_nil ?_
        obtain ⟨_, _, _, oe, vs, T, oT, _, he, _, hd, e1, _⟩ := id fl3
        unfold PySem.passOn
        refine wpAny_bind (wpAny_field he hd e1 ?_)
        rw [if_neg (show ¬ ((Value.ref T == Value.none) = true) from by simp)]
        have out : wpAny (model X.prog X.w) X.A (setFlight (.ref a) X.env.frame) (fun _ sq => wpAny (model X.prog X.w) X.A (throw (.ref a) : Sem Flow) (SP X pins D) X.xe sq) X.xe { s' with heap := g3 } := by
          rw [hf]
          refine HandSPX.setFlight_upZ fl3 fun g4 hg4 up4 => wpAny_throw (tk _ _ ?_)
          exact ⟨a, B, sI, pins, τ, G, cls, d, rfl, J, nb, (up.trans up3).trans up4, .inr (.inr (by rw [st]; exact hg4)), na, os, ag, w⟩
        first
          | exact wpAny_bind (wpAny_pure (wpAny_bind out))
          | exact wpAny_bind out
      | @cons x c ts b1 more np p2 hs3 l3 hc hsu r ih =>
        intro w
        obtain ⟨b, eb, yes, no⟩ := w
        refine wpAny_handleBy_cons (codeAny_handlers_test ?_) (by intro q; cases q)
        have LT : PySem.W.Looks (model X.prog X.w) g3 (typeOf (.ref a)) cls := fun A Q E s k q => wpAny_typeOf_ref (k _ _ he3) (by rw [hz3.1]; exact q)
        have LM := PySem.W.exm_one (M := model X.prog X.w) (J3.kIn) LT eb
        have test : ∀ {Q E : Value → Shared → Prop}, Q c { s' with heap := g3 } → wpAny (model X.prog X.w) (X.A.mark (some (.ref a))) (eval (.Name x np) X.env) Q E { s' with heap := g3 } := fun {Q E} q => by
          obtain ⟨hg, dbg, hm | ⟨hm, hv, hnn⟩⟩ := hc
          · exact ld_glob (X := X.suite a ((a, oe3) :: (X.pn ++ pins))) S3 hg hm q dbg
          · exact ld_blt (X := X.suite a ((a, oe3) :: (X.pn ++ pins))) S3 hg hm hv q hnn dbg
        refine test (LM.here ?_)
        cases b with
        | false => exact ih (no rfl)
        | true =>
          refine codeAny_handlers_suite_as ?_
          refine HandSPX.lands_againZ fl3 fun g4 fl4 up4 => ?_
          have J4 : Inv X pins τ G { s' with heap := g4 } := J.landed nb fl4.1 ((up.trans up3).trans up4) os ag
          obtain ⟨oe4, vs4, he4, hz4, hd4⟩ := fl4.there
          have S4 := J4.suite he4 hd4 na nL nF
          refine store_ok (X := X.suite a ((a, oe4) :: (X.pn ++ pins))) (v := .ref a) S4 hN hi hloc rfl (fun s5 S5 => ?_) (.inr hln)
          refine wpAny_mono ((hsu a oe4 cls d (X.pn ++ pins) hz4 ⟨_, hd4⟩).run [] s5 _ G _ S5 (yes rfl a na)) (fun f s6 q => ?_) (fun _ _ z => False.elim z)
          have fin : ∀ {τ6 : L2.St} {G6 : Hp} {Q : Shared → Prop}, Inv (X.suite a ((a, oe4) :: (X.pn ++ pins))) [] τ6 G6 s6 → (∀ s7, Inv X pins (τ6.set i none) G6 s7 → Q s7) →
              wpAny (model X.prog X.w) X.A (do bindName X.env n .none; unbindBehindTheSuite X.env n p2) (fun _ s7 => Q s7) X.xe s6 := fun {τ6 G6 Q} S6 hq => gone_ok (S6.unsuite ok) hN hi hln hq
          cases f with
          | next =>
            obtain ⟨τ6, G6, S6, q6⟩ := q
            exact fin S6 fun s7 J7 => ⟨_, _, J7, q6⟩
          | brk =>
            obtain ⟨τ6, G6, S6, q6⟩ := q
            exact fin S6 fun s7 J7 => ⟨_, _, J7, q6⟩
          | cont =>
            obtain ⟨τ6, G6, S6, q6⟩ := q
            exact fin S6 fun s7 J7 => ⟨_, _, J7, q6⟩
          | ret u =>
            obtain ⟨v6, τ6, G6, S6, r6, q6⟩ := q
            exact fin S6 fun s7 J7 => ⟨_, _, _, J7, r6, q6⟩
    exact go hh w
  · cases f with
    | next =>
      obtain ⟨τ, G, J', q⟩ := q
      exact wpAny_execs_nil ⟨τ, G, J'.ofTry ok, q⟩
    | brk =>
      obtain ⟨τ, G, J', q⟩ := q
      exact ⟨τ, G, J'.ofTry ok, q⟩
    | cont =>
      obtain ⟨τ, G, J', q⟩ := q
      exact ⟨τ, G, J'.ofTry ok, q⟩
    | ret u =>
      obtain ⟨v, τ, G, J', r, q⟩ := q
      exact ⟨v, τ, G, J'.ofTry ok, r, q⟩
/-- isinstance(e, c), e the caught exception, whose own dict is tracked -/
def rIsD (K : PySem.W.Frag) (a : Addr) (cls : Value) (d : Option Addr) : List V → Hp → VK → Prop := fun xs H Q => ∃ (D dd : Addr) (fs : List (Str × V)) (c : V) (cv : Value) (b : Bool), cls = .ref D ∧ d = some dd ∧ H dd = some (.xd fs) ∧ ExcC K D ∧ xs = [.ref a, c] ∧ (∀ u, RelV c u → u = cv) ∧ PySem.W.kitOne K (.ref D) cv = some b ∧ Q (.bl b) H
theorem call_isD {X : Cx} {a : Addr} {oe : Obj} {cls : Value} {d : Option Addr} {pn : List (Addr × Obj)} (hz : Zc cls d oe) (hf : ∃ vs, oe.data = .fields vs) : CallR (X.suite a ((a, oe) :: pn)) (.builtin "isinstance") (rIsD X.K a cls d) := by
  intro pins s σ H xs us Q I r h
  obtain ⟨D, dd, fs, c, cv, b, rfl, rfl, hD, C, rfl, hcv, e, q⟩ := h
  obtain ⟨vs, hv⟩ := hf
  match us, r with
  | [_, _], .cons rx (.cons rt .nil) =>
    cases rx
    cases hcv _ rt
    obtain ⟨here, _⟩ := I.pin (a, oe) (List.mem_append_left _ List.mem_cons_self)
    have hx : ObjOk X.prog X.w H s.heap dd (.xd fs) := I.hok dd _ hD
    obtain ⟨mA, hns, hr⟩ := hx
    obtain ⟨od, ho, hl⟩ := lookIn_ns hns
    have J : PySem.W.InstAt s.heap a oe D (some od) := ⟨here, hz.1, by unfold PySem.W.notCls; rw [hv] <;> rfl, by rw [hz.2]; exact ho⟩
    have hcl : (PySem.W.clsIn X.K D).isSome = true := by
      obtain ⟨cd, hc, _⟩ := PySem.W.any_some C.hd
      rw [hc] <;> rfl
    exact PySem.W.kia_one (PySem.W.kitx_exc hcl C.hg C.hk C.hs C.ha C.hn C.ht C.hm) I.kIn J e (fun z => nomatch z) fun tk => ⟨.bl b, H, I.kept (t' := tk) fun _ _ z => z, rfl, q⟩
end K18

/-! k18: the errors' makings, raised. -/
namespace K18
open PySem PySem.Spec PyProof.Rows L2 LamX K1

abbrev asg (f : Str) (q1 q2 q3 q4 : Pos) : Stmt := .Assign [.Attribute (.Name "self" q1) f q2] (.Name f q3) q4
/-- __init__ of an error: its fields as passed -/
def spE (C : Addr) (names : List Str) : Sp := fun vs H Q _ => ∃ (a : Addr) (vals : List V), vs = .ref a :: vals ∧ vals.length = names.length ∧ H a = some (exo a C none) ∧
  ∀ dx H', H dx = none → dx ≠ a → H' a = some (exo a C (some dx)) → H' dx = some (exd dx (names.zip vals).reverse) → (∀ b, b ≠ a → b ≠ dx → H' b = H b) → Q .non H'
theorem vis_of {N ps : List Str} {sc : Scope} (S : FnScope N ps sc) {x : Str} (h : x ∈ ps) : Vis sc x := (S.par x h).elim .inl fun z => .inr (.inl z)
abbrev Plain (x : Str) : Prop := (x == ("__debug__" : Str)) = false ∧ (x == ("__classdict__" : Str)) = false
section
variable {P : Program} {w : World} {K : PySem.W.Frag} {mg : Str → Option Value} {base : Heap} {f C : Addr} {fd : FuncData} {qual : Str} {params : Arguments} {body : List Stmt} {scope : Scope}
theorem init1 {f1 : Str} {q1 q2 q3 q4 : Pos} (F : FunD K "__init__" qual params body scope [] [] f fd) (S : FnScope ["self", f1] ["self", f1] scope) (hb : body = [asg f1 q1 q2 q3 q4]) (T : OexC K C)
    (d1 : Plain f1) (n1 : PySem.W.findIn K (.ref C) f1 = some none) : FnOk P w K mg base CX0 1 f fd ["self", f1] (spE C [f1]) := by
  refine F.ok S (fun vs H Q E ⟨a, vals, e, hl, _⟩ => by rw [e]; exact congrArg (· + 1) hl) (fun cdv A outer s H vs Q E hr h => ?_)
  subst hb
  obtain ⟨a, vals, rfl, hl, ha, k⟩ := h
  match vals, hl with
  | [v], _ =>
    refine ⟨_, pss_one (ps_ost (pe_var (i := 0) (x := "self") rfl (vis_of S (by simp))) (pe_var (i := 1) rfl (vis_of S (by simp)) d1.1 d1.2)), ?_⟩
    refine ⟨_, rfl, _, rfl, a, C, rfl, T, n1, .inl ⟨ha, fun dx hd hn => ?_⟩⟩
    exact k dx _ hd hn upd_same ((upd_ne hn).trans upd_same) fun b h1 h2 => (upd_ne h1).trans (upd_ne h2)
theorem init2 {f1 f2 : Str} {q1 q2 q3 q4 r1 r2 r3 r4 : Pos} (F : FunD K "__init__" qual params body scope [] [] f fd) (S : FnScope ["self", f1, f2] ["self", f1, f2] scope) (hb : body = [asg f1 q1 q2 q3 q4, asg f2 r1 r2 r3 r4]) (T : OexC K C)
    (d1 : Plain f1) (d2 : Plain f2) (n1 : PySem.W.findIn K (.ref C) f1 = some none) (n2 : PySem.W.findIn K (.ref C) f2 = some none) : FnOk P w K mg base CX0 1 f fd ["self", f1, f2] (spE C [f1, f2]) := by
  refine F.ok S (fun vs H Q E ⟨a, vals, e, hl, _⟩ => by rw [e]; exact congrArg (· + 1) hl) (fun cdv A outer s H vs Q E hr h => ?_)
  subst hb
  obtain ⟨a, vals, rfl, hl, ha, k⟩ := h
  match vals, hl with
  | [v, u], _ =>
    refine ⟨_, pss_cons (ps_ost (pe_var (i := 0) (x := "self") rfl (vis_of S (by simp))) (pe_var (i := 1) rfl (vis_of S (by simp)) d1.1 d1.2))
      (pss_one (ps_ost (pe_var (i := 0) (x := "self") rfl (vis_of S (by simp))) (pe_var (i := 2) rfl (vis_of S (by simp)) d2.1 d2.2))), ?_⟩
    refine ⟨_, rfl, _, rfl, a, C, rfl, T, n1, .inl ⟨ha, fun dx hd hn => ?_⟩⟩
    have e1 : upd (upd H dx (exd dx [(f1, v)])) a (exo a C (some dx)) dx = some (exd dx [(f1, v)]) := (upd_ne hn).trans upd_same
    refine ⟨_, rfl, _, rfl, a, C, rfl, T, n2, .inr ⟨dx, _, upd_same, e1, by simp, ?_⟩⟩
    exact k dx _ hd hn ((upd_ne (Ne.symm hn)).trans upd_same) upd_same fun b h1 h2 => (upd_ne h2).trans ((upd_ne h1).trans (upd_ne h2))
end
/-- behind a raise: what stood stands, the error's dict holds its fields -/
structure ToldF (H H' : Hp) (d : Addr) (fs : List (Str × V)) : Prop where
  same : Same H H'
  new : H d = none
  at_ : H' d = some (.xd fs)
structure ErrR (P : Program) (w : World) (K : PySem.W.Frag) (mg : Str → Option Value) (base : Heap) (C : Addr) (x : Str) (names : List Str) : Prop where
  g : mg x = some (.ref C)
  o : OexC K C
  i : ∃ fI fd, PySem.W.findIn K (.ref C) "__init__" = some (some (.ref fI)) ∧ PySem.W.typeIn K (.ref fI) = some (.type "function") ∧ Binds K fd ("self" :: names) [] ∧ FnOk P w K mg base CX0 1 fI fd ("self" :: names) (spE C names)
def rsK (C : Addr) (names : List Str) (W : WX) (σ : L2.St) (vs : List V) (H1 : Hp) : Prop := vs.length ≤ 1000 ∧ ∀ a, H1 a = none → spE C names (.ref a :: (vs ++ [])) (upd H1 a (exo a C none))
  (fun v H2 => v = .non ∧ ∃ (d : Addr) (fs : List (Str × V)), H2 a = some (exo a C (some d)) ∧ H2 d = some (exd d fs) ∧ H1 d = none ∧ W (.ref C) (some d) σ (upd (del H2 a) d (.xd fs))) (fun _ _ _ => False)
theorem rs_of {C : Addr} {names : List Str} {W : WX} {σ : L2.St} {vs : List V} {H1 : Hp} (hl : vs.length = names.length) (few : vs.length ≤ 1000) (k : ∀ (d : Addr) (H' : Hp), ToldF H1 H' d (names.zip vs).reverse → W (.ref C) (some d) σ H') : rsK C names W σ vs H1 := by
  refine ⟨few, fun a na => ⟨a, vs ++ [], rfl, by rw [List.append_nil]; exact hl, upd_same, fun dx H' nd ne e1 e2 keep => ⟨rfl, dx, _, e1, e2, ?_, ?_⟩⟩⟩
  · rw [upd_ne ne] at nd
    exact nd
  · rw [upd_ne ne] at nd
    rw [List.append_nil] at e2 ⊢
    refine k dx _ ⟨fun b o e => ?_, nd, upd_same⟩
    have h1 := ne_of_none e na
    have h2 := ne_of_none e nd
    rw [upd_ne h2, del_ne h1, keep b h1 h2, upd_ne h1]
    exact e
def tRs (C : Addr) (names : List Str) (ta : TA) (W : WX) : TS := fun _ σ H => ta σ H (rsK C names W σ)
theorem ps_rs {X : Cx} {C : Addr} {x : Str} {names : List Str} {W : WX} {e : Expr} {es : List Expr} {ta : TA} {p pos pos2 : Pos} (B : ErrR X.prog X.w X.K X.mg X.base C x names) (hc : X.calm = true) (tk : Takes X W) (hr : Room 2 X.A) (ha : PA X (e :: es) ta) (hg : Gl X x := by rfl)
    (hdb : (x == ("__debug__" : Str)) = false := by decide) (he : starEach (e :: es) X.env = (false, eval e X.env) :: starEach es X.env := by rfl) (hpl : (backTo pos (starEach es X.env)).any (·.1) = false := by rfl) :
    PS X (.Raise (some (.Call (.Name x p) (e :: es) [] pos)) none pos2) (tRs C names ta W) := by
  obtain ⟨fI, fd, i1, i2, b1, F1⟩ := B.i
  exact ps_raise (pos := pos2) hc tk (pmk_oex (p := p) (pos := pos) B.o i1 i2 F1 hr b1 .nil pass0 hg B.g ha hdb he hpl)
/-- raise x(name), raise x('text') -/
theorem rs_v {C : Addr} {f : Str} {W : WX} {i : Nat} {v : V} {D : Ends} {σ : L2.St} {H : Hp} (hσ : σ[i]? = some (some v)) (k : ∀ (d : Addr) (H' : Hp), ToldF H H' d [(f, v)] → W (.ref C) (some d) σ H') : tRs C [f] (tCons (tVar i) tNil) W D σ H :=
  ⟨v, hσ, rs_of rfl (by show 1 ≤ 1000; decide) k⟩
theorem rs_c {C : Addr} {f : Str} {W : WX} {v : V} {D : Ends} {σ : L2.St} {H : Hp} (k : ∀ (d : Addr) (H' : Hp), ToldF H H' d [(f, v)] → W (.ref C) (some d) σ H') : tRs C [f] (tCons (tC v) tNil) W D σ H :=
  rs_of (vs := [v]) rfl (by show 1 ≤ 1000; decide) k
end K18

/-! k18: what is walked as a list or as a tuple. -/
namespace K18
open PySem PySem.Spec PyProof.Rows L2 LamX K1

/-- a list or a tuple of xs, tracked -/
def SqA (H : Hp) (a : Addr) (xs : List V) : Prop := H a = some (.lst xs) ∨ H a = some (.tup xs)
theorem SqA.same {H H' : Hp} {a : Addr} {xs : List V} (s : Same H H') (h : SqA H a xs) : SqA H' a xs := h.imp (s _ _) (s _ _)
theorem SqA.there {H : Hp} {a : Addr} {xs : List V} (h : SqA H a xs) : ∃ o, H a = some o := h.elim (fun z => ⟨_, z⟩) fun z => ⟨_, z⟩
theorem SqA.ne {H : Hp} {a b : Addr} {xs : List V} (h : SqA H a xs) (n : H b = none) : a ≠ b := let ⟨_, e⟩ := h.there; ne_of_none e n
theorem SqA.at_ {H H' : Hp} {a : Addr} {xs : List V} (e : H' a = H a) (h : SqA H a xs) : SqA H' a xs := by unfold SqA at *; rw [e]; exact h
def iSeq (K : PySem.W.Frag) (tl : TE) : TI := fun σ H R => tl σ H fun x H1 => ∃ a, x = .ref a ∧ (((∃ xs, SqL K H1 a xs) ∧ R (Itl K a) H1) ∨ ((∃ xs, SqT K H1 a xs) ∧ R (Itt K a) H1))
theorem pi_seq {X : Cx} {tg l : Expr} {tl : TE} (hl : PE X l tl) : PI X tg l (iSeq X.K tl) := by
  refine ⟨fun pins s σ H R I h => thn (hl.run pins s σ H _ I h) fun v sa ⟨x, Ha, Ia, ra, a, e, q⟩ => ?_⟩
  subst e
  cases ra
  have out : ∀ b ∈ [sa.heap.objs.size], FpOk X pins Ha b := fun b hb => by
    cases List.mem_singleton.mp hb
    exact Ia.fpOk (Nat.le_refl _) (Ia.hok.fresh (Nat.le_refl _))
  rcases q with ⟨⟨xs, hq⟩, q⟩ | ⟨⟨xs, hq⟩, q⟩
  · obtain ⟨its, _, p, _⟩ := Ia.list hq
    exact wpAny_pyIter_list p.isList ⟨sa.heap.objs.size, [sa.heap.objs.size], _, _, Ha, rfl, Ia.kept (t' := sa.toks) fun b o e => Heap.get?_push_of_some _ e, turn_list a _, ⟨_, Heap.get?_push_size _ rfl, rfl, rfl⟩, out, q⟩
  · obtain ⟨its, _, p, _⟩ := Ia.tuple hq
    exact wpAny_pyIter_tuple (show sa.heap.IsTuple a its.toArray from p) ⟨sa.heap.objs.size, [sa.heap.objs.size], _, _, Ha, rfl, Ia.kept (t' := sa.toks) fun b o e => Heap.get?_push_of_some _ e, turn_tuple a _, ⟨_, Heap.get?_push_size _ rfl, rfl, rfl⟩, out, q⟩
section
variable {K : PySem.W.Frag} {a : Addr} {xs : List V} {g : TG}
theorem for_seqA {tb : TS} {D : Ends} {σ : L2.St} {H : Hp} (hq : SqA H a xs) (Pv : Nat → L2.St → Hp → Prop) (h0 : Pv 0 σ H) (hl : ∀ i σ' H', i ≤ xs.length → Pv i σ' H' → H' a = H a)
    (hs : ∀ i x σ H, xs[i]? = some x → Pv i σ H → g x σ H fun σ2 H2 => tb { D with nx := Pv (i + 1), ct := Pv (i + 1), bk := D.nx } σ2 H2) (hd : ∀ σ H, Pv xs.length σ H → D.nx σ H) :
    ((∃ xs, SqL K H a xs) ∧ ∃ W : Nat → Nat → L2.St → Hp → Prop, (∃ m, W 0 m σ H) ∧ ∀ i m σ H, W i m σ H →
      ((Itl K a).stop i H ∧ D.nx σ H) ∨ ((Itl K a).go i H ∧ ∃ N : L2.St → Hp → Prop, (∀ σ' H', N σ' H' → ∃ m', m' < m ∧ W (i + 1) m' σ' H') ∧ ∀ x H', (Itl K a).yld i H x H' → g x σ H' fun σ2 H2 => tb { D with nx := N, ct := N, bk := D.nx } σ2 H2)) ∨
    ((∃ xs, SqT K H a xs) ∧ ∃ W : Nat → Nat → L2.St → Hp → Prop, (∃ m, W 0 m σ H) ∧ ∀ i m σ H, W i m σ H →
      ((Itt K a).stop i H ∧ D.nx σ H) ∨ ((Itt K a).go i H ∧ ∃ N : L2.St → Hp → Prop, (∀ σ' H', N σ' H' → ∃ m', m' < m ∧ W (i + 1) m' σ' H') ∧ ∀ x H', (Itt K a).yld i H x H' → g x σ H' fun σ2 H2 => tb { D with nx := N, ct := N, bk := D.nx } σ2 H2)) := by
  rcases hq with h | h
  · exact .inl ⟨⟨_, SqL.of h⟩, for_list Pv h0 (fun i σ' H' l p => SqL.of ((hl i σ' H' l p).trans h)) hs hd⟩
  · exact .inr ⟨⟨_, SqT.of h⟩, for_tup Pv h0 (fun i σ' H' l p => SqT.of ((hl i σ' H' l p).trans h)) hs hd⟩
theorem lc_seqA {tt : TT} {te : TE} {vs : List Nat} {σ : L2.St} {H1 : Hp} {Q : Addr → Hp → Prop} (hq : SqA H1 a xs)
    (k : ∀ D, H1 D = none → ∃ Pv : Nat → Hp → Prop, Pv 0 (upd H1 D (.lst [])) ∧ (∀ i H', i ≤ xs.length → Pv i H' → H' a = H1 a) ∧
      (∀ i x H, xs[i]? = some x → Pv i H → g x (wipe σ vs) H fun σ2 H2 => wipe σ2 vs = wipe σ vs ∧ tt σ2 H2 fun b H3 =>
        if b = true then te σ2 H3 fun y H4 => ∃ acc, H4 D = some (.lst acc) ∧ acc.length < sizeLine ∧ Pv (i + 1) (upd H4 D (.lst (acc ++ [y]))) else Pv (i + 1) H3) ∧ ∀ H, Pv xs.length H → Q D H) :
    ((∃ xs, SqL K H1 a xs) ∧ ∀ D, H1 D = none → ∃ W : Nat → Nat → Hp → Prop, (∃ m, W 0 m (upd H1 D (.lst []))) ∧ ∀ i m H, W i m H →
      ((Itl K a).stop i H ∧ Q D H) ∨ ((Itl K a).go i H ∧ ∃ Nx : Hp → Prop, (∀ H', Nx H' → ∃ m', m' < m ∧ W (i + 1) m' H') ∧ ∀ x H', (Itl K a).yld i H x H' → g x (wipe σ vs) H' fun σ2 H2 => wipe σ2 vs = wipe σ vs ∧ tt σ2 H2 fun b H3 =>
        if b = true then te σ2 H3 fun y H4 => ∃ acc, H4 D = some (.lst acc) ∧ acc.length < sizeLine ∧ Nx (upd H4 D (.lst (acc ++ [y]))) else Nx H3)) ∨
    ((∃ xs, SqT K H1 a xs) ∧ ∀ D, H1 D = none → ∃ W : Nat → Nat → Hp → Prop, (∃ m, W 0 m (upd H1 D (.lst []))) ∧ ∀ i m H, W i m H →
      ((Itt K a).stop i H ∧ Q D H) ∨ ((Itt K a).go i H ∧ ∃ Nx : Hp → Prop, (∀ H', Nx H' → ∃ m', m' < m ∧ W (i + 1) m' H') ∧ ∀ x H', (Itt K a).yld i H x H' → g x (wipe σ vs) H' fun σ2 H2 => wipe σ2 vs = wipe σ vs ∧ tt σ2 H2 fun b H3 =>
        if b = true then te σ2 H3 fun y H4 => ∃ acc, H4 D = some (.lst acc) ∧ acc.length < sizeLine ∧ Nx (upd H4 D (.lst (acc ++ [y]))) else Nx H3)) := by
  rcases hq with h | h
  · refine .inl ⟨⟨_, SqL.of h⟩, fun D hD => ?_⟩
    obtain ⟨Pv, h0, hl, hs, hd⟩ := k D hD
    exact lc_list Pv h0 (fun i H' l p => SqL.of ((hl i H' l p).trans h)) hs hd
  · refine .inr ⟨⟨_, SqT.of h⟩, fun D hD => ?_⟩
    obtain ⟨Pv, h0, hl, hs, hd⟩ := k D hD
    exact lc_tup Pv h0 (fun i H' l p => SqT.of ((hl i H' l p).trans h)) hs hd
/-- the turns of a set's comprehension over a list or a tuple -/
theorem sc_seqA {r : V → List V → Hp → VK → Prop} {z : Addr → HO} {tt : TT} {te : TE} {vs : List Nat} {σ : L2.St} {H1 : Hp} {Q : Addr → Hp → Prop} (hq : SqA H1 a xs)
    (k : ∀ D, H1 D = none → ∃ Pv : Nat → Hp → Prop, Pv 0 (upd H1 D (z D)) ∧ (∀ i H', i ≤ xs.length → Pv i H' → H' a = H1 a) ∧
      (∀ i x H, xs[i]? = some x → Pv i H → g x (wipe σ vs) H fun σ2 H2 => wipe σ2 vs = wipe σ vs ∧ tt σ2 H2 fun b H3 =>
        if b = true then te σ2 H3 fun y H4 => r (.ref D) [y] H4 fun _ H5 => Pv (i + 1) H5 else Pv (i + 1) H3) ∧ ∀ H, Pv xs.length H → Q D H) :
    ((∃ xs, SqL K H1 a xs) ∧ ∀ D, H1 D = none → ∃ W : Nat → Nat → Hp → Prop, (∃ m, W 0 m (upd H1 D (z D))) ∧ ∀ i m H, W i m H →
      ((Itl K a).stop i H ∧ Q D H) ∨ ((Itl K a).go i H ∧ ∃ Nx : Hp → Prop, (∀ H', Nx H' → ∃ m', m' < m ∧ W (i + 1) m' H') ∧ ∀ x H', (Itl K a).yld i H x H' → g x (wipe σ vs) H' fun σ2 H2 => wipe σ2 vs = wipe σ vs ∧ tt σ2 H2 fun b H3 =>
        if b = true then te σ2 H3 fun y H4 => r (.ref D) [y] H4 fun _ H5 => Nx H5 else Nx H3)) ∨
    ((∃ xs, SqT K H1 a xs) ∧ ∀ D, H1 D = none → ∃ W : Nat → Nat → Hp → Prop, (∃ m, W 0 m (upd H1 D (z D))) ∧ ∀ i m H, W i m H →
      ((Itt K a).stop i H ∧ Q D H) ∨ ((Itt K a).go i H ∧ ∃ Nx : Hp → Prop, (∀ H', Nx H' → ∃ m', m' < m ∧ W (i + 1) m' H') ∧ ∀ x H', (Itt K a).yld i H x H' → g x (wipe σ vs) H' fun σ2 H2 => wipe σ2 vs = wipe σ vs ∧ tt σ2 H2 fun b H3 =>
        if b = true then te σ2 H3 fun y H4 => r (.ref D) [y] H4 fun _ H5 => Nx H5 else Nx H3)) := by
  rcases hq with h | h
  · refine .inl ⟨⟨_, SqL.of h⟩, fun D hD => ?_⟩
    obtain ⟨Pv, h0, hl, hs, hd⟩ := k D hD
    refine ⟨fun i m H => m = xs.length - i ∧ i ≤ xs.length ∧ Pv i H, ⟨_, rfl, Nat.zero_le _, h0⟩, ?_⟩
    rintro i m H ⟨rfl, hi, p⟩
    have q : SqL K H a xs := SqL.of ((hl i H hi p).trans h)
    by_cases lt : i < xs.length
    · refine .inr ⟨⟨xs, xs[i], q, by simp [lt]⟩, Pv (i + 1), fun H' p' => ⟨_, by omega, rfl, lt, p'⟩, fun x H' y => ?_⟩
      obtain ⟨rfl, y⟩ := y
      exact hs i x _ (y xs q) p
    · have e : i = xs.length := by omega
      subst e
      exact .inl ⟨⟨xs, q, Nat.le_refl _⟩, hd H p⟩
  · refine .inr ⟨⟨_, SqT.of h⟩, fun D hD => ?_⟩
    obtain ⟨Pv, h0, hl, hs, hd⟩ := k D hD
    refine ⟨fun i m H => m = xs.length - i ∧ i ≤ xs.length ∧ Pv i H, ⟨_, rfl, Nat.zero_le _, h0⟩, ?_⟩
    rintro i m H ⟨rfl, hi, p⟩
    have q : SqT K H a xs := SqT.of ((hl i H hi p).trans h)
    by_cases lt : i < xs.length
    · refine .inr ⟨⟨xs, xs[i], q, by simp [lt]⟩, Pv (i + 1), fun H' p' => ⟨_, by omega, rfl, lt, p'⟩, fun x H' y => ?_⟩
      obtain ⟨rfl, y⟩ := y
      exact hs i x _ (y xs q) p
    · have e : i = xs.length := by omega
      subst e
      exact .inl ⟨⟨xs, q, Nat.le_refl _⟩, hd H p⟩
end
/-! two rules at one place -/
theorem pg_both {X : Cx} {e : Expr} {g1 g2 : TG} (h1 : PG X e g1) (h2 : PG X e g2) : PG X e (fun v σ H Q => g1 v σ H Q ∨ g2 v σ H Q) :=
  ⟨fun pins s σ H v u Q I r h => h.elim (h1.run pins s σ H v u Q I r) (h2.run pins s σ H v u Q I r)⟩
theorem pe_both {X : Cx} {e : Expr} {t1 t2 : TE} (h1 : PE X e t1) (h2 : PE X e t2) : PE X e (fun σ H Q => t1 σ H Q ∨ t2 σ H Q) :=
  ⟨fun pins s σ H Q I h => h.elim (h1.run pins s σ H Q I) (h2.run pins s σ H Q I)⟩
theorem cr_both {X : Cx} {v : Value} {r1 r2 : List V → Hp → VK → Prop} (h1 : CallR X v r1) (h2 : CallR X v r2) : CallR X v (fun xs H Q => r1 xs H Q ∨ r2 xs H Q) :=
  fun pins s σ H xs us Q I r h => h.elim (h1 pins s σ H xs us Q I r) (h2 pins s σ H xs us Q I r)
theorem op_both {X : Cx} {f : Value → Value → Sem Value} {r1 r2 : R2} (h1 : OpR X f r1) (h2 : OpR X f r2) : OpR X f (fun x y H Q => r1 x y H Q ∨ r2 x y H Q) :=
  fun pins s σ H x y v u Q I rx ry h => h.elim (h1 pins s σ H x y v u Q I rx ry) (h2 pins s σ H x y v u Q I rx ry)
/-- a, b = a pair, list or tuple -/
def gPair (K : PySem.W.Frag) (t : TGs) : TG := fun v σ H Q => gTup K 2 t v σ H Q ∨ gLst K 2 t v σ H Q
theorem pg_pair {X : Cx} {es : List Expr} {k : Nat} {t : TGs} {pos : Pos} (hc : X.calm = true) (h : PGs X es t) (hn : (assignEach es X.env).length = 2 := by rfl) (hst : (assignEach es X.env).findIdx? (·.1) = none := by rfl) : PG X (.Tuple es k pos) (gPair X.K t) :=
  pg_both (pg_tup hc h hn hst) (pg_lst hc h hn hst)
theorem gPair.of {K : PySem.W.Frag} {t : TGs} {a : Addr} {xs : List V} {σ : L2.St} {H : Hp} {Q : L2.St → Hp → Prop} (h : SqA H a xs) (l : xs.length = 2) (q : t xs σ H Q) : gPair K t (.ref a) σ H Q :=
  h.elim (fun h => .inr ⟨a, xs, rfl, SqL.of h, l, q⟩) fun h => .inl ⟨a, xs, rfl, SqT.of h, l, q⟩
end K18

/-! k18: is_integer, is_within, is_listed, are_integers, check_none_twice, check_hand. -/
namespace K18
open PySem PySem.Spec PyProof.Rows L2 LamX K1

theorem TyOf.keep {K : PySem.W.Frag} {H H' : Hp} {v : V} {t : Value} (s : Same H H') (h : TyOf K H v t) : TyOf K H' v t := by
  cases h with
  | non => exact .non
  | bl x => exact .bl x
  | int i => exact .int i
  | str x => exact .str x
  | flt x => exact .flt x
  | lst e => exact .lst (s _ _ e)
  | frz e => exact .frz (s _ _ e)
  | tup e => exact .tup (s _ _ e)
  | dK e => exact .dK (s _ _ e)
  | dT e => exact .dT (s _ _ e)
  | ins e a b c d f => exact .ins (s _ _ e) a b c d f
/-- is_integer says no of it -/
def NotInt (K : PySem.W.Frag) (H : Hp) (v : V) : Prop := ∃ (t : Value) (c : Bool), TyOf K H v t ∧ PySem.W.kitOne K t (.type "int") = some c ∧ (c = true → PySem.W.kitOne K t (.type "bool") = some true)
theorem NotInt.same {K : PySem.W.Frag} {H H' : Hp} {v : V} (s : Same H H') (h : NotInt K H v) : NotInt K H' v := let ⟨t, c, a, b⟩ := h; ⟨t, c, TyOf.keep s a, b⟩
theorem NotInt.of {K : PySem.W.Frag} {H : Hp} {v : V} {T : String} (ty : TyOf K H v (.type T)) (m : T ∈ ["NoneType", "str", "list", "tuple", "dict"]) : NotInt K H v := by
  refine ⟨_, false, ty, ?_, fun z => nomatch z⟩
  simp only [List.mem_cons, List.not_mem_nil, or_false] at m
  rcases m with rfl | rfl | rfl | rfl | rfl <;> exact kit_ty (by decide +kernel)
theorem NotInt.bl {K : PySem.W.Frag} {H : Hp} (b : Bool) : NotInt K H (.bl b) := ⟨_, true, .bl b, kit_ty (by decide +kernel), fun _ => kit_ty (by decide +kernel)⟩
theorem int1 {K : PySem.W.Frag} : PySem.W.kitOne K (.type "int") (.type "int") = some true := kit_ty (a := "int") (b := "int") (r := true) (by decide +kernel)
theorem int2 {K : PySem.W.Frag} : (true = true) → PySem.W.kitOne K (.type "int") (.type "bool") = some false := fun _ => kit_ty (a := "int") (b := "bool") (r := false) (by decide +kernel)
/-- no list, no tuple -/
def NotSeq (K : PySem.W.Frag) (H : Hp) (v : V) : Prop := ∃ t, TyOf K H v t ∧ PySem.W.kitAny K t [.type "list", .type "tuple"] = some false
theorem NotSeq.same {K : PySem.W.Frag} {H H' : Hp} {v : V} (s : Same H H') (h : NotSeq K H v) : NotSeq K H' v := let ⟨t, a, b⟩ := h; ⟨t, TyOf.keep s a, b⟩
theorem NotSeq.of {K : PySem.W.Frag} {H : Hp} {v : V} {T : String} (ty : TyOf K H v (.type T)) (m : T ∈ ["NoneType", "str", "int", "bool", "dict"]) : NotSeq K H v := by
  refine ⟨_, ty, ?_⟩
  simp only [List.mem_cons, List.not_mem_nil, or_false] at m
  rcases m with rfl | rfl | rfl | rfl | rfl <;> exact kitAny_cons (kit_ty (b := "list") (r := false) (by decide +kernel)) (fun _ => kitAny_cons (kit_ty (b := "tuple") (r := false) (by decide +kernel)) (fun _ => rfl) fun z => nomatch z) fun z => nomatch z
theorem is_list {K : PySem.W.Frag} : PySem.W.kitAny K (.type "list") [.type "list", .type "tuple"] = some true := kitAny_cons (kit_ty (b := "list") (r := true) (by decide +kernel)) (fun z => nomatch z) fun _ => rfl
theorem is_tup {K : PySem.W.Frag} : PySem.W.kitAny K (.type "tuple") [.type "list", .type "tuple"] = some true := kitAny_cons (kit_ty (b := "list") (r := false) (by decide +kernel)) (fun _ => kitAny_cons (kit_ty (b := "tuple") (r := true) (by decide +kernel)) (fun z => nomatch z) fun _ => rfl) fun z => nomatch z

def spIsInt (K : PySem.W.Frag) : Sp := fun vs H Q _ => ∃ v, vs = [v] ∧ ((NotInt K H v ∧ Q (.bl false) H) ∨ ∃ n, v = .int n ∧ Q (.bl true) H)
def spWithin (K : PySem.W.Frag) : Sp := fun vs H Q _ => ∃ (v : V) (lo hi : Int), vs = [v, .int lo, .int hi] ∧ ((NotInt K H v ∧ Q (.bl false) H) ∨ ∃ n, v = .int n ∧ Q (.bl (decide (lo ≤ n) && decide (n ≤ hi))) H)
def spListed (K : PySem.W.Frag) : Sp := fun vs H Q _ => ∃ v, vs = [v] ∧ ((NotSeq K H v ∧ ∀ H', Same H H' → Q (.bl false) H') ∨ ∃ a xs, v = .ref a ∧ SqA H a xs ∧ ∀ H', Same H H' → Q (.bl true) H')
/-- each item an int (true), or none -/
def IBs (K : PySem.W.Frag) (H : Hp) (xs : List V) (bs : List Bool) : Prop := xs.length = bs.length ∧ ∀ (i : Nat) (x : V), xs[i]? = some x → ∃ b, bs[i]? = some b ∧ ((b = true ∧ ∃ n, x = .int n) ∨ (b = false ∧ NotInt K H x))
theorem IBs.same {K : PySem.W.Frag} {H H' : Hp} {xs : List V} {bs : List Bool} (s : Same H H') (h : IBs K H xs bs) : IBs K H' xs bs :=
  ⟨h.1, fun i x e => let ⟨b, e1, z⟩ := h.2 i x e; ⟨b, e1, z.imp id fun z => ⟨z.1, z.2.same s⟩⟩⟩
theorem IBs.ints {K : PySem.W.Frag} {H : Hp} (ns : List Int) : IBs K H (ns.map V.int) (List.replicate ns.length true) := by
  refine ⟨by simp, fun i x e => ?_⟩
  rw [List.getElem?_map] at e
  have hi : i < ns.length := by
    cases q : ns[i]? with
    | none => rw [q] at e; cases e
    | some n => exact (List.getElem?_eq_some_iff.mp q).1
  refine ⟨true, by rw [List.getElem?_replicate, if_pos hi], .inl ⟨rfl, ?_⟩⟩
  cases q : ns[i]? with
  | none => rw [q] at e; cases e
  | some n => rw [q] at e; cases e; exact ⟨n, rfl⟩
def spAreInts (K : PySem.W.Frag) : Sp := fun vs H Q _ => ∃ v, vs = [v] ∧ ((NotSeq K H v ∧ ∀ H', Same H H' → Q (.bl false) H') ∨ ∃ a xs bs, v = .ref a ∧ SqA H a xs ∧ xs.length ≤ 1000 ∧ IBs K H xs bs ∧ ∀ H', Same H H' → Q (.bl (bs.all id)) H')
theorem take_bl {bs : List Bool} {i : Nat} {b : Bool} (h : bs[i]? = some b) : (bs.take i).map V.bl ++ [V.bl b] = (bs.take (i + 1)).map V.bl := by
  obtain ⟨hi, e⟩ := List.getElem?_eq_some_iff.mp h
  rw [List.take_succ_eq_append_getElem hi, List.map_append, e]
  rfl
theorem call1 {sp : Sp} {E : XK} {i : Nat} {σ : L2.St} {H : Hp} {Q : VK} {v : V} (hv : σ[i]? = some (some v)) (h : sp [v] H Q E) : tCall sp [] E (tCons (tVar i) tNil) σ H Q := ⟨v, hv, h⟩
section
variable {P : Program} {w : World} {K : PySem.W.Frag} {mg : Str → Option Value} {base : Heap} {f C : Addr} {fd : FuncData}
abbrev HasInt (P : Program) (w : World) (K : PySem.W.Frag) (mg : Str → Option Value) (base : Heap) : Prop := Has P w K mg base CX0 1 "is_integer" ["value"] (spIsInt K)
abbrev HasListed (P : Program) (w : World) (K : PySem.W.Frag) (mg : Str → Option Value) (base : Heap) : Prop := Has P w K mg base CX0 1 "is_listed" ["value"] (spListed K)
abbrev HasWithin (P : Program) (w : World) (K : PySem.W.Frag) (mg : Str → Option Value) (base : Heap) : Prop := Has P w K mg base CX0 2 "is_within" ["value", "least", "most"] (spWithin K)
abbrev HasAreInts (P : Program) (w : World) (K : PySem.W.Frag) (mg : Str → Option Value) (base : Heap) : Prop := Has P w K mg base CX0 2 "are_integers" ["value"] (spAreInts K)
theorem scIsInt : FnScope ["value"] ["value"] (defScope sIsInt) := ⟨rfl, rfl, rfl, by decide +kernel, rfl, by decide +kernel, by decide +kernel⟩
theorem ok_isInt (G : Glob mg) (F : DefAt K "is_integer" "is_integer" sIsInt f fd) : FnOk P w K mg base CX0 1 f fd ["value"] (spIsInt K) := by
  refine okN F scIsInt (fun vs H Q E ⟨v, e, _⟩ => by rw [e]; rfl) (fun cdv A outer s H vs Q E hr ⟨v, e, h⟩ => ?_)
  subst e
  refine ⟨_, pss_one (ps_ret (pe_and (pe_callB call_isi (by rfl) G.isi (by decide +kernel) (pa_cons (pv 0) (pa_cons (pe_bltn (by rfl) G.int (by decide +kernel) (v := .ty "int") rfl) pa_nil)))
      (pe_one (pe_not (pe_callB call_isi (by rfl) G.isi (by decide +kernel) (pa_cons (pv 0) (pa_cons (pe_bltn (by rfl) G.bool (by decide +kernel) (v := .ty "bool") rfl) pa_nil))))))), ?_⟩
  rcases h with ⟨⟨t, c, ty, k1, k2⟩, q⟩ | ⟨n, rfl, q⟩
  · refine ⟨_, rfl, _, _, _, _, _, rfl, .ty "int", .base ty, k1, c, rfl, ?_⟩
    cases c with
    | false => exact iteF q
    | true => exact iteT ⟨_, rfl, _, _, _, _, _, rfl, .ty "bool", .base ty, k2 rfl, true, rfl, q⟩
  · exact ⟨_, rfl, _, _, _, _, _, rfl, .ty "int", .base (.int n), int1, true, rfl, iteT ⟨_, rfl, _, _, _, _, _, rfl, .ty "bool", .base (.int n), int2 rfl, false, rfl, q⟩⟩
theorem scListed : FnScope ["value"] ["value"] (defScope sListed) := ⟨rfl, rfl, rfl, by decide +kernel, rfl, by decide +kernel, by decide +kernel⟩
theorem ok_listed (G : Glob mg) (F : DefAt K "is_listed" "is_listed" sListed f fd) : FnOk P w K mg base CX0 1 f fd ["value"] (spListed K) := by
  refine okN F scListed (fun vs H Q E ⟨v, e, _⟩ => by rw [e]; rfl) (fun cdv A outer s H vs Q E hr ⟨v, e, h⟩ => ?_)
  subst e
  refine ⟨_, pss_one (ps_ret (pe_callB call_isiT (by rfl) G.isi (by decide +kernel) (pa_cons (pv 0) (pa_cons (pe_tup (pa_cons (pe_bltn (by rfl) G.lst (by decide +kernel) (v := .ty "list") rfl) (pa_cons (pe_bltn (by rfl) G.tup (by decide +kernel) (v := .ty "tuple") rfl) pa_nil))) pa_nil)))), ?_⟩
  refine ⟨_, rfl, (by show 2 ≤ sizeLine; decide), fun p np => ?_⟩
  have s1 : Same H (upd H p (.tup [.ty "list", .ty "tuple"])) := upd_new np
  obtain ⟨t, b, ty, k, q⟩ : ∃ (t : Value) (b : Bool), TyOf K H v t ∧ PySem.W.kitAny K t [.type "list", .type "tuple"] = some b ∧ ∀ H', Same H H' → Q (.bl b) H' := by
    rcases h with ⟨⟨t, ty, k⟩, q⟩ | ⟨a, xs, rfl, h | h, q⟩
    · exact ⟨t, false, ty, k, q⟩
    · exact ⟨_, true, .lst h, is_list, q⟩
    · exact ⟨_, true, .tup h, is_tup, q⟩
  exact ⟨_, p, _, t, [.type "list", .type "tuple"], b, rfl, upd_same, .cons (.ty _) (.cons (.ty _) .nil), .base (TyOf.keep s1 ty), k, q _ s1⟩
theorem scWithin : FnScope ["value", "least", "most"] ["value", "least", "most"] (defScope sWithin) := ⟨rfl, rfl, rfl, by decide +kernel, rfl, by decide +kernel, by decide +kernel⟩
theorem ok_within (HI : HasInt P w K mg base) (F : DefAt K "is_within" "is_within" sWithin f fd) : FnOk P w K mg base CX0 2 f fd ["value", "least", "most"] (spWithin K) := by
  obtain ⟨fi, fdi, mI, kI, bI, GI⟩ := HI.h
  refine okN F scWithin (fun vs H Q E ⟨v, lo, hi, e, _⟩ => by rw [e]; rfl) (fun cdv A outer s H vs Q E hr ⟨v, lo, hi, e, h⟩ => ?_)
  subst e
  refine ⟨_, pss_cons (ps_if (pt_not (pt_val (pe_call GI hr rfl mI kI bI .nil pass0 (pa_cons (pv 0) pa_nil)))) (pss_one (ps_ret pe_bl)) pss_nil)
    (pss_one (ps_ret (pe_and (pe_or (pe_cmpR op_isN (pv 1) pe_non (nomark _)) (pe_one (pe_cmpR op_le (pv 1) (pv 0) (nomark _))))
      (pe_one (pe_or (pe_cmpR op_isN (pv 2) pe_non (nomark _)) (pe_one (pe_cmpR op_le (pv 0) (pv 2) (nomark _)))))))), ?_⟩
  rcases h with ⟨ni, q⟩ | ⟨n, rfl, q⟩
  · exact ⟨_, rfl, v, rfl, .inl ⟨ni, false, rfl, iteT q⟩⟩
  · refine ⟨_, rfl, _, rfl, .inr ⟨n, rfl, true, rfl, iteF ?_⟩⟩
    refine ⟨_, rfl, rfl, false, rfl, iteF ⟨_, rfl, _, rfl, _, _, rfl, rfl, _, rfl, ?_⟩⟩
    by_cases hl : lo ≤ n
    · rw [decide_eq_true hl, Bool.true_and] at q
      rw [decide_eq_true hl]
      exact iteT ⟨_, rfl, rfl, false, rfl, iteF ⟨_, rfl, _, rfl, _, _, rfl, rfl, q⟩⟩
    · rw [decide_eq_false hl, Bool.false_and] at q
      rw [decide_eq_false hl]
      exact iteF q
theorem scAreInts : FnScope ["value", "item"] ["value"] (defScope sAreInts) := ⟨rfl, rfl, rfl, by decide +kernel, rfl, by decide +kernel, by decide +kernel⟩
theorem ok_areInts (G : Glob mg) (HI : HasInt P w K mg base) (HL : HasListed P w K mg base) (F : DefAt K "are_integers" "are_integers" sAreInts f fd) : FnOk P w K mg base CX0 2 f fd ["value"] (spAreInts K) := by
  obtain ⟨fi, fdi, mI, kI, bI, GI⟩ := HI.h
  obtain ⟨fl, fdl, mL, kL, bL, GL⟩ := HL.h
  refine okN F scAreInts (fun vs H Q E ⟨v, e, _⟩ => by rw [e]; rfl) (fun cdv A outer s H vs Q E hr ⟨v, e, h⟩ => ?_)
  subst e
  refine ⟨_, pss_one (ps_ret (pe_and (pe_call GL hr rfl mL kL bL .nil pass0 (pa_cons (pv 0) pa_nil))
        (pe_one (pe_callB (cr_all rfl) (by rfl) G.all (by decide +kernel) (pa_cons
          (pe_lc (own := [("item", 1)]) (g := gName 1) (tt := tYes) rfl scAreInts.nd (pi_seq (pv 0)) (blkOk_by (N := ["value", "item"]) (sc := defScope sAreInts) (by decide +kernel))
            (fun _ _ _ _ _ => pg_name (i := 1) scAreInts.nd rfl (Or.inl rfl)) (fun _ _ _ _ _ => pts_nil) (fun _ _ _ _ _ => pe_call GI hr rfl mI kI bI .nil pass0 (pa_cons (pv 1) pa_nil))) pa_nil))))), ?_⟩
  rcases h with ⟨ns, q⟩ | ⟨a, xs, bs, rfl, sq, hl, ib, q⟩
  · exact ⟨_, rfl, v, rfl, .inl ⟨ns, fun H1 s1 => ⟨false, rfl, iteF (q H1 s1)⟩⟩⟩
  · refine ⟨_, rfl, _, rfl, .inr ⟨a, xs, rfl, sq, fun H1 s1 => ⟨true, rfl, iteT ?_⟩⟩⟩
    refine ⟨_, rfl, a, rfl, ?_⟩
    refine lc_seqA (sq.same s1) fun D hD => ⟨fun i H2 => Same H1 H2 ∧ H2 D = some (.lst ((bs.take i).map V.bl)), ⟨upd_new hD, by simpa using upd_same⟩, fun i H2 _ z => ?_, ?_, ?_⟩
    · obtain ⟨o, e⟩ := (sq.same s1).there
      rw [e, z.1 _ _ e]
    · rintro i x H2 hx ⟨s2, h2⟩
      refine ⟨rfl, yes_of ?_⟩
      obtain ⟨b, eb, z⟩ := (ib.same (s1.trans s2)).2 i x hx
      have fin : ∃ acc, H2 D = some (.lst acc) ∧ acc.length < sizeLine ∧ (Same H1 (upd H2 D (.lst (acc ++ [.bl b]))) ∧ upd H2 D (.lst (acc ++ [.bl b])) D = some (.lst ((bs.take (i + 1)).map V.bl))) := by
        refine ⟨_, h2, ?_, fun c o e => ?_, ?_⟩
        · have := (List.getElem?_eq_some_iff.mp hx).1
          rw [List.length_map, List.length_take, sizeLine_eq]
          omega
        · rw [upd_ne (ne_of_none e hD)]
          exact s2 c o e
        · rw [upd_same, take_bl eb]
      rcases z with ⟨rfl, n, rfl⟩ | ⟨rfl, ni⟩
      · exact ⟨_, rfl, _, rfl, .inr ⟨n, rfl, fin⟩⟩
      · exact ⟨_, rfl, _, rfl, .inl ⟨ni, fin⟩⟩
    · rintro H2 ⟨s2, h2⟩
      rw [ib.1, List.take_length] at h2
      exact ⟨D, bs, rfl, SqL.of h2, q H2 (s1.trans s2)⟩
end
end K18

/-! k18: check_none_twice, check_hand, hands_told, done_told. -/
namespace K18
open PySem PySem.Spec PyProof.Rows L2 LamX K1

abbrev InM (m n : Int) : Prop := 0 ≤ n ∧ n < m
/-- the errors' classes, with what their raising needs -/
structure Errs (P : Program) (w : World) (K : PySem.W.Frag) (mg : Str → Option Value) (base : Heap) (CW CD CH CT CU CM : Addr) : Prop where
  swap : ErrR P w K mg base CW "BadSwap" ["part"]
  done : ErrR P w K mg base CD "BadDone" ["part"]
  hand : ErrR P w K mg base CH "NoHand" ["number"]
  twice : ErrR P w K mg base CT "Twice" ["value"]
  unlike : ErrR P w K mg base CU "Unlike" ["what"]
  many : ErrR P w K mg base CM "TooMany" ["what", "most"]
theorem ToldF.from {H H1 H' : Hp} {d : Addr} {fs : List (Str × V)} (s : Same H H1) (h : ToldF H1 H' d fs) : ToldF H H' d fs := ⟨fun b o e => h.same b o (s b o e), s.free h.new, h.at_⟩
/-- the first that stands twice -/
def DupAt (ns : List Int) (i : Nat) (n : Int) : Prop := ns[i]? = some n ∧ n ∈ ns.take i ∧ (ns.take i).Nodup
def spTwice (CT : Addr) : Sp := fun vs H Q E => ∃ (a : Addr) (ns : List Int), vs = [.ref a] ∧ SqA H a (ns.map V.int) ∧ ns.length ≤ 1000 ∧ (ns.Nodup → ∀ H', Same H H' → Q .non H') ∧
  ∀ i n, DupAt ns i n → ∀ d H', ToldF H H' d [("value", .int n)] → E (.ref CT) (some d) H'
def spHand (K : PySem.W.Frag) (CH : Addr) : Sp := fun vs H Q E => ∃ (m : Int) (v : V), vs = [.int m, v] ∧ ((∃ n, v = .int n ∧ InM m n ∧ ∀ H', Same H H' → Q .non H') ∨
  ((NotInt K H v ∨ ∃ n, v = .int n ∧ ¬ InM m n) ∧ ∀ d H', ToldF H H' d [("number", v)] → E (.ref CH) (some d) H'))
/-- hands_told: an odd value; or ints, with what becomes of them -/
def HandsW (K : PySem.W.Frag) (CD CH CT : Addr) (m : Int) (v part : V) (H : Hp) (E : XK) (k : List Int → Addr → Prop) : Prop :=
  ((NotSeq K H v ∨ ∃ a xs bs, v = .ref a ∧ SqA H a xs ∧ xs.length ≤ 1000 ∧ IBs K H xs bs ∧ bs.all id = false) ∧ ∀ d H', ToldF H H' d [("part", part)] → E (.ref CD) (some d) H') ∨
  (∃ (a : Addr) (ns : List Int), v = .ref a ∧ SqA H a (ns.map V.int) ∧ ns.length ≤ 1000 ∧
    (∀ i n, ns[i]? = some n → ¬ InM m n → (∀ x ∈ ns.take i, InM m x) → ∀ d H', ToldF H H' d [("number", .int n)] → E (.ref CH) (some d) H') ∧
    ((∀ x ∈ ns, InM m x) → ∀ i n, DupAt ns i n → ∀ d H', ToldF H H' d [("value", .int n)] → E (.ref CT) (some d) H') ∧
    ((∀ x ∈ ns, InM m x) → ns.Nodup → k ns a))
def spHands (K : PySem.W.Frag) (CD CH CT : Addr) : Sp := fun vs H Q E => ∃ (m : Int) (v part : V), vs = [.int m, v, part] ∧ HandsW K CD CH CT m v part H E fun ns a => ∀ (t : Addr) (H' : Hp), Same H H' → H' t = some (.tup (ns.map V.int)) → Q (.ref t) H'
def spDone (K : PySem.W.Frag) (CD CH CT : Addr) : Sp := fun vs H Q E => ∃ (m : Int) (v part : V), vs = [.int m, v, part] ∧ HandsW K CD CH CT m v part H E fun ns a => ∀ (ms : List Int) (t : Addr) (H' : Hp), ms.Perm ns → ms.Pairwise (· ≤ ·) → Same H H' → H' t = some (.tup (ms.map V.int)) → Q (.ref t) H'
section
variable {P : Program} {w : World} {K : PySem.W.Frag} {mg : Str → Option Value} {base : Heap} {f C CW CD CH CT CU CM : Addr} {fd : FuncData}
theorem decIn (m n : Int) : (decide (0 ≤ n) && decide (n ≤ m - 1)) = decide (InM m n) := by
  by_cases h : InM m n
  · rw [decide_eq_true h, decide_eq_true h.1, decide_eq_true (by have := h.2; omega : n ≤ m - 1)]; rfl
  · rw [decide_eq_false h]
    by_cases h0 : 0 ≤ n
    · rw [decide_eq_true h0, decide_eq_false (fun z => h ⟨h0, by omega⟩)]; rfl
    · rw [decide_eq_false h0]; rfl
theorem scHand : FnScope ["many", "value"] ["many", "value"] (defScope sHand) := ⟨rfl, rfl, rfl, by decide +kernel, rfl, by decide +kernel, by decide +kernel⟩
theorem ok_hand (HW : HasWithin P w K mg base) (B : Errs P w K mg base CW CD CH CT CU CM) (F : DefAt K "check_hand" "check_hand" sHand f fd) : FnOk P w K mg base (L2.CX P w) 4 f fd ["many", "value"] (spHand K CH) := by
  obtain ⟨fw, fdw, mW, kW, bW, GW⟩ := HW.h
  refine okX F scHand (fun vs H Q E ⟨m, v, e, _⟩ => by rw [e]; rfl) (fun cdv A outer s H vs Q E hr ⟨m, v, e, h⟩ => ?_)
  subst e
  have tk : Takes (cxOf (L2.CX P w) P w K mg base ["many", "value"] "check_hand" (defScope sHand) f cdv A outer s H E) (fun cls d _ H' => E cls d H') := takes_of rfl rfl rfl rfl
  refine ⟨_, pss_one (ps_if (pt_not (pt_val (pe_call GW (hr.mono (by decide)) rfl mW kW bW .nil pass0 (pa_cons (pv 1) (pa_cons pe_int (pa_cons (pe_op op_sub (pv 0) pe_int) pa_nil)))))) (pss_one (ps_rs B.hand rfl tk (hr.mono (by decide)) (pa_cons (pv 1) pa_nil))) pss_nil), ?_⟩
  refine ⟨_, rfl, _, rfl, _, _, rfl, rfl, v, 0, m - 1, rfl, ?_⟩
  rcases h with ⟨n, rfl, hn, q⟩ | ⟨h, q⟩
  · refine .inr ⟨n, rfl, true, by rw [decIn, decide_eq_true hn], iteF ?_⟩
    exact q H (Same.refl H)
  · rcases h with ni | ⟨n, rfl, hn⟩
    · exact .inl ⟨ni, false, rfl, iteT (rs_v rfl q)⟩
    · exact .inr ⟨n, rfl, false, by rw [decIn, decide_eq_false hn], iteT (rs_v rfl q)⟩
theorem scTwice : FnScope ["items", "met", "item"] ["items"] (defScope sNoneTwice) := ⟨rfl, rfl, rfl, by decide +kernel, rfl, by decide +kernel, by decide +kernel⟩
theorem putK_len {kvs : List (Key × V)} {k : Key} {v : V} : (putK kvs k v).length ≤ kvs.length + 1 := by
  unfold putK
  split
  · simp
  · simp
theorem ok_twice (B : Errs P w K mg base CW CD CH CT CU CM) (F : DefAt K "check_none_twice" "check_none_twice" sNoneTwice f fd) : FnOk P w K mg base (L2.CX P w) 4 f fd ["items"] (spTwice CT) := by
  refine okX F scTwice (fun vs H Q E ⟨a, ns, e, _⟩ => by rw [e]; rfl) (fun cdv A outer s H vs Q E hr ⟨a, ns, e, sq, hl, q1, q2⟩ => ?_)
  subst e
  have hu := hu_of hr
  have tk : Takes (cxOf (L2.CX P w) P w K mg base ["items", "met", "item"] "check_none_twice" (defScope sNoneTwice) f cdv A outer s H E) (fun cls d _ H' => E cls d H') := takes_of rfl rfl rfl rfl
  refine ⟨_, pss_cons (ps_set (i := 1) scTwice.nd rfl (Or.inl rfl) pe_dnewK) (pss_one (ps_for (passes_of rfl) rfl (pi_seq (pv 0)) (pg_name (i := 2) scTwice.nd rfl (Or.inl rfl))
    (pss_cons (ps_if (pt_cmp (pc_din hu (pv 2) (pv 1))) (pss_one (ps_rs B.twice rfl tk (hr.mono (by decide)) (pa_cons (pv 2) pa_nil))) pss_nil)
    (pss_one (ps_dput hu (pv 1) (pv 2) pe_bl rfl))))), ?_⟩
  intro M hM
  have sM := upd_new (o := .dK []) hM
  have aM : a ≠ M := sq.ne hM
  refine ⟨_, rfl, a, rfl, ?_⟩
  refine for_seqA (sq.same sM) (fun i σ H2 => ∃ (kvs : List (Key × V)) (z : Option V), σ = [some (.ref a), some (.ref M), z] ∧ H2 = upd H M (.dK kvs) ∧ kvs.length ≤ i ∧ (ns.take i).Nodup ∧ ∀ n : Int, valV kvs (Sum.inl n) = if n ∈ ns.take i then some (.bl true) else none)
    ⟨[], none, rfl, rfl, Nat.zero_le _, by simp, fun n => by simp [valV_nil]⟩ ?_ ?_ ?_
  · rintro i σ' H' _ ⟨kvs, z, _, rfl, _⟩
    rw [upd_ne aM, upd_ne aM]
  · rintro i x σ H2 hx ⟨kvs, z, rfl, rfl, lk, nd, val⟩
    rw [List.getElem?_map] at hx
    obtain ⟨n, hn, rfl⟩ : ∃ n, ns[i]? = some n ∧ x = .int n := by
      cases e : ns[i]? with
      | none => rw [e] at hx; cases hx
      | some n => rw [e] at hx; cases hx; exact ⟨n, rfl, rfl⟩
    have hi := (List.getElem?_eq_some_iff.mp hn).1
    refine ⟨_, rfl, _, rfl, M, _, rfl, DGet.k (k := Sum.inl n) upd_same, _, rfl, ?_⟩
    rw [val n]
    by_cases hm : n ∈ ns.take i
    · rw [if_pos hm]
      exact iteT (rs_v rfl fun d H' t => q2 i n ⟨hn, hm, nd⟩ d H' (t.from (upd_new hM)))
    · rw [if_neg hm]
      refine iteF ⟨_, rfl, _, rfl, M, _, rfl, DPut.k (k := Sum.inl n) upd_same (by rw [sizeLine_eq]; omega), ?_⟩
      refine ⟨putK kvs (Sum.inl n) (.bl true), _, rfl, by rw [upd_upd], Nat.le_trans putK_len (by omega), ?_, fun j => ?_⟩
      · obtain ⟨hj, ej⟩ := List.getElem?_eq_some_iff.mp hn
        rw [List.take_succ_eq_append_getElem hj, ej]
        refine List.nodup_append.mpr ⟨nd, by simp, fun y hy z hz => ?_⟩
        rw [List.mem_singleton] at hz
        subst hz
        rintro rfl
        exact hm hy
      · obtain ⟨hj, ej⟩ := List.getElem?_eq_some_iff.mp hn
        rw [valV_put, val j, List.take_succ_eq_append_getElem hj, ej]
        by_cases e : j = n
        · subst e; simp
        · simp [e]
  · rintro σ H2 ⟨kvs, z, rfl, rfl, lk, nd, val⟩
    rw [List.length_map, List.take_length] at nd
    exact q1 nd _ (upd_new hM)
end
end K18

/-! k18: sorted(a tuple of ints). -/
namespace K18
open PySem PySem.Spec PyProof.Rows L2 LamX K1

def rSortedTI (K : PySem.W.Frag) : List V → Hp → VK → Prop := fun vs H Q => ∃ (a : Addr) (ns : List Int), vs = [V.ref a] ∧ SqT K H a (ns.map V.int) ∧ ∀ (ms : List Int) (p : Addr), ms.Perm ns → ms.Pairwise (· ≤ ·) → H p = none → Q (.ref p) (upd H p (.lst (ms.map V.int)))
theorem obj_there {P : Program} {w : World} {H : Hp} {h : Heap} {a : Addr} : ∀ {o : HO}, ObjOk P w H h a o → ∃ u, h.get? a = some u
  | .lst _, ⟨_, _, _, _, e⟩ => ⟨_, e⟩
  | .tup _, ⟨_, _, _, ⟨o, e, _⟩⟩ => ⟨o, e⟩
  | .dK _, ⟨_, _, _, _, o, _, _, e, _⟩ => ⟨o, e⟩
  | .dT _, ⟨_, _, _, _, o, _, _, e, _⟩ => ⟨o, e⟩
  | .set _ _, ⟨o, _, _, _, e, _⟩ => ⟨o, e⟩
  | .ins _ _ _, ⟨_, _, _, e, _⟩ => ⟨_, e⟩
  | .own _, e => e
  | .xd _, ⟨_, ⟨o, _, _, e, _⟩, _⟩ => ⟨o, e⟩
  | .rng _ _, ⟨_, _, _, e⟩ => ⟨_, e⟩
  | .frz _ _, ⟨e, _⟩ => ⟨_, e⟩
  | .tbl _, e => ⟨_, e⟩
  | .met _ _, e => ⟨_, e⟩
  | .ext _, ⟨_, e, _⟩ => e
theorem cr_sortedTI {X : Cx} : CallR X (.builtin "sorted") (rSortedTI X.K) := by
  intro pins s σ H vs us Q I r h
  obtain ⟨a, ns, rfl, hs, q⟩ := h
  obtain ⟨its, rv, hl, hz⟩ := I.tuple hs
  rw [Vals.ref1 r]
  have hi := rv.ints
  have hz2 : its.length ≤ sizeLine := by rw [← rv.length]; exact hz
  obtain ⟨o, ho, hc, n, hd⟩ := (show s.heap.IsTuple a its.toArray from hl)
  refine Calls.call_function_entry kind_sorted plain_sorted entry_sorted (args_sorted1 _) ?_
  unfold Builtin.«sorted»
  refine wpAny_bind (m := checkCount "sorted" 1 1 _) (wpAny_pure ?_)
  refine wpAny_bind (wpAny_collect_seq a (.inr rfl) ho hc hd (fun g keep => ?_) (by simpa using hz2))
  refine wpAny_bind (wpAny_newList ?_ (by simpa using hz2))
  have at1 : (g.push (seqObj "list" its.toArray 0)).get? g.objs.size = some (seqObj "list" its.toArray 0) := Heap.get?_push_size _ rfl
  refine wpAny_bind (wpAny_holding (wpAny_call_entry slot_list_sort ⟨_, at1, rfl⟩ entry_list_sort (SrtO.list_sort_ord SrtO.swo_int at1 hz2 (fun h2 => SrtO.ints_sortable hi h2) fun out h1 h2 => ⟨_, rfl, ?_⟩) (args_list_sort _)))
  obtain ⟨k1, k2, k3⟩ := SrtO.ints_out hi h1 h2
  obtain ⟨ep, at2⟩ := PyProof.Rows.sortedHeap_at (vs := its) (out := out.toArray) at1
  have len : ((out.map SrtO.iv).map V.int).length ≤ sizeLine := by
    rw [List.length_map, k2.length_eq]
    rw [List.length_map] at hz
    exact hz
  have nh : s.heap.get? g.objs.size = none := by
    cases e : s.heap.get? g.objs.size with
    | none => rfl
    | some o => exact absurd (Heap.lt_size (keep _ _ e)) (Nat.lt_irrefl _)
  have nH : H g.objs.size = none := by
    cases e : H g.objs.size with
    | none => rfl
    | some u =>
      obtain ⟨o, e2⟩ := obj_there (I.hok _ u e)
      rw [nh] at e2
      cases e2
  have J : Inv X pins σ (upd H g.objs.size (.lst ((out.map SrtO.iv).map V.int))) { s with heap := PyProof.Rows.sortedHeap (g.push (seqObj "list" its.toArray 0)) g.objs.size its out.toArray, toks := s.toks } := by
    refine L2.Inv.laidN I (fun b u e => ?_) nh nH ⟨len, out, ep, vals_of_ints k1, at2⟩
    have e1 := Heap.get?_push_of_some (seqObj "list" its.toArray 0) (keep b u e)
    rw [PyProof.Rows.sortedHeap_old (Nat.ne_of_lt (Heap.lt_size (keep b u e))) (Heap.lt_size e1)]
    exact e1
  exact wpAny_pure ⟨_, rfl, .ref g.objs.size, _, J, rfl, q _ _ k2 k3 nH⟩
end K18

/-! k18: hands_told, done_told, mask_of, numbers_in. -/
namespace K18
open PySem PySem.Spec PyProof.Rows L2 LamX K1

theorem ints_at {ns : List Int} {i : Nat} {x : V} (h : (ns.map V.int)[i]? = some x) : ∃ n, ns[i]? = some n ∧ x = .int n := by
  rw [List.getElem?_map] at h
  cases e : ns[i]? with
  | none => rw [e] at h; cases h
  | some n => rw [e] at h; cases h; exact ⟨n, rfl, rfl⟩
section
variable {P : Program} {w : World} {K : PySem.W.Frag} {mg : Str → Option Value} {base : Heap} {f C CW CD CH CT CU CM : Addr} {fd : FuncData}
abbrev HasHand (P : Program) (w : World) (K : PySem.W.Frag) (mg : Str → Option Value) (base : Heap) (CH : Addr) : Prop := Has P w K mg base (L2.CX P w) 4 "check_hand" ["many", "value"] (spHand K CH)
abbrev HasTwice (P : Program) (w : World) (K : PySem.W.Frag) (mg : Str → Option Value) (base : Heap) (CT : Addr) : Prop := Has P w K mg base (L2.CX P w) 4 "check_none_twice" ["items"] (spTwice CT)
abbrev HasHands (P : Program) (w : World) (K : PySem.W.Frag) (mg : Str → Option Value) (base : Heap) (CD CH CT : Addr) : Prop := Has P w K mg base (L2.CX P w) 5 "hands_told" ["many", "value", "part"] (spHands K CD CH CT)
abbrev HasDone (P : Program) (w : World) (K : PySem.W.Frag) (mg : Str → Option Value) (base : Heap) (CD CH CT : Addr) : Prop := Has P w K mg base (L2.CX P w) 6 "done_told" ["many", "value", "part"] (spDone K CD CH CT)
abbrev nHands : List Str := ["many", "value", "part", "number"]
theorem scHands : FnScope nHands ["many", "value", "part"] (defScope sHands) := ⟨rfl, rfl, rfl, by decide +kernel, rfl, by decide +kernel, by decide +kernel⟩
theorem ok_hands (G : Glob mg) (HI : HasAreInts P w K mg base) (HW : HasWithin P w K mg base) (HT : HasTwice P w K mg base CT) (B : Errs P w K mg base CW CD CH CT CU CM) (F : DefAt K "hands_told" "hands_told" sHands f fd) :
    FnOk P w K mg base (L2.CX P w) 5 f fd ["many", "value", "part"] (spHands K CD CH CT) := by
  obtain ⟨fi, fdi, mI, kI, bI, GI⟩ := HI.h
  obtain ⟨fw, fdw, mW, kW, bW, GW⟩ := HW.h
  obtain ⟨ft, fdt, mT, kT, bT, GT⟩ := HT.h
  refine okX F scHands (fun vs H Q E ⟨m, v, part, e, _⟩ => by rw [e]; rfl) (fun cdv A outer s H vs Q E hr ⟨m, v, part, e, h⟩ => ?_)
  subst e
  have tk : Takes (cxOf (L2.CX P w) P w K mg base nHands "hands_told" (defScope sHands) f cdv A outer s H E) (fun cls d _ H' => E cls d H') := takes_of rfl rfl rfl rfl
  have ps := passes_call tk (E := E) fun _ _ _ _ z => z
  refine ⟨_, pss_cons (ps_if (pt_not (pt_val (pe_call GI (hr.mono (by decide)) rfl mI kI bI .nil pass0 (pa_cons (pv 1) pa_nil)))) (pss_one (ps_rs B.done rfl tk (hr.mono (by decide)) (pa_cons (pv 2) pa_nil))) pss_nil)
    (pss_cons (ps_for (passes_of rfl) rfl (pi_seq (pv 1)) (pg_name (i := 3) scHands.nd rfl (Or.inl rfl))
      (pss_one (ps_if (pt_not (pt_val (pe_call GW (hr.mono (by decide)) rfl mW kW bW .nil pass0 (pa_cons (pv 3) (pa_cons pe_int (pa_cons (pe_op op_sub (pv 0) pe_int) pa_nil)))))) (pss_one (ps_rs B.hand rfl tk (hr.mono (by decide)) (pa_cons (pv 3) pa_nil))) pss_nil)))
    (pss_cons (ps_expr (pe_call GT hr rfl mT kT bT .nil ps (pa_cons (pv 1) pa_nil)))
    (pss_one (ps_ret (pe_callTy call_tuple_of (by rfl) G.tup (by decide +kernel) (pa_cons (pv 1) pa_nil)))))), ?_⟩
  rcases h with ⟨h, q⟩ | ⟨a, ns, rfl, sq, hl, qH, qT, qK⟩
  · refine call1 (i := 1) rfl ⟨v, rfl, ?_⟩
    rcases h with ni | ⟨a, xs, bs, rfl, sq, hl, ib, all⟩
    · exact .inl ⟨ni, fun H1 s1 => ⟨false, rfl, iteT (rs_v rfl fun d H' t => q d H' (t.from s1))⟩⟩
    · refine .inr ⟨a, xs, bs, rfl, sq, hl, ib, fun H1 s1 => ⟨false, by rw [all], iteT (rs_v rfl fun d H' t => q d H' (t.from s1))⟩⟩
  · refine call1 (i := 1) rfl ⟨_, rfl, .inr ⟨a, _, _, rfl, sq, by rw [List.length_map]; exact hl, IBs.ints ns, fun H1 s1 => ⟨true, by simp, iteF ?_⟩⟩⟩
    have sq1 := sq.same s1
    refine ⟨_, rfl, a, rfl, ?_⟩
    refine for_seqA sq1 (fun i σ H2 => H2 = H1 ∧ (∀ x ∈ ns.take i, InM m x) ∧ ∃ z, σ = [some (.int m), some (.ref a), some part, z]) ⟨rfl, fun x hx => by simp at hx, none, rfl⟩ (fun i σ' H' _ z => by rw [z.1]) ?_ ?_
    · rintro i x σ H2 hx ⟨rfl, al, z, rfl⟩
      obtain ⟨n, hn, rfl⟩ := ints_at hx
      refine ⟨_, rfl, _, rfl, _, _, rfl, rfl, _, 0, m - 1, rfl, .inr ⟨n, rfl, decide (InM m n), by rw [decIn], ?_⟩⟩
      by_cases hin : InM m n
      · rw [decide_eq_true hin]
        refine iteF ⟨rfl, fun y hy => ?_, _, rfl⟩
        obtain ⟨hj, ej⟩ := List.getElem?_eq_some_iff.mp hn
        rw [List.take_succ_eq_append_getElem hj, ej] at hy
        rcases List.mem_append.mp hy with hy | hy
        · exact al y hy
        · rw [List.mem_singleton] at hy; subst hy; exact hin
      · rw [decide_eq_false hin]
        exact iteT (rs_v rfl fun d H' t => qH i n hn hin al d H' (t.from s1))
    · rintro σ H2 ⟨rfl, al, z, rfl⟩
      rw [List.length_map, List.take_length] at al
      refine call1 (i := 1) rfl ⟨a, ns, rfl, sq1, hl, fun nd H3 s3 => ?_, fun i n dup d H' t => qT al i n dup d H' (t.from s1)⟩
      have fin := qK al nd
      refine ⟨_, rfl, a, ns.map V.int, rfl, ?_⟩
      rcases sq1.same s3 with h3 | h3
      · exact .inl ⟨SqL.of h3, fun l nl => fin l _ ((s1.trans s3).trans (upd_new nl)) upd_same⟩
      · exact .inr ⟨SqT.of h3, fin a _ (s1.trans s3) h3⟩
theorem scDone : FnScope ["many", "value", "part"] ["many", "value", "part"] (defScope sDone) := ⟨rfl, rfl, rfl, by decide +kernel, rfl, by decide +kernel, by decide +kernel⟩
theorem ok_done (G : Glob mg) (HH : HasHands P w K mg base CD CH CT) (F : DefAt K "done_told" "done_told" sDone f fd) : FnOk P w K mg base (L2.CX P w) 6 f fd ["many", "value", "part"] (spDone K CD CH CT) := by
  obtain ⟨fh, fdh, mH, kH, bH, GH⟩ := HH.h
  refine okX F scDone (fun vs H Q E ⟨m, v, part, e, _⟩ => by rw [e]; rfl) (fun cdv A outer s H vs Q E hr ⟨m, v, part, e, h⟩ => ?_)
  subst e
  have tk : Takes (cxOf (L2.CX P w) P w K mg base ["many", "value", "part"] "done_told" (defScope sDone) f cdv A outer s H E) (fun cls d _ H' => E cls d H') := takes_of rfl rfl rfl rfl
  have ps := passes_call tk (E := E) fun _ _ _ _ z => z
  refine ⟨_, pss_one (ps_ret (pe_callTy call_tuple_of (by rfl) G.tup (by decide +kernel) (pa_cons (pe_callB cr_sortedTI (by rfl) G.sorted (by decide +kernel) (pa_cons (pe_call GH hr rfl mH kH bH .nil ps (pa_cons (pv 0) (pa_cons (pv 1) (pa_cons (pv 2) pa_nil)))) pa_nil)) pa_nil))), ?_⟩
  refine ⟨_, rfl, _, rfl, _, rfl, m, v, part, rfl, ?_⟩
  rcases h with h | ⟨a, ns, rfl, sq, hl, qH, qT, qK⟩
  · exact .inl h
  · refine .inr ⟨a, ns, rfl, sq, hl, qH, qT, fun al nd t H1 s1 h1 => ?_⟩
    refine ⟨t, ns, rfl, SqT.of h1, fun ms p pm srt hp => ?_⟩
    exact ⟨p, _, rfl, .inl ⟨SqL.of upd_same, fun l nl => qK al nd ms l _ pm srt ((s1.trans (upd_new hp)).trans (upd_new nl)) upd_same⟩⟩
end
end K18

/-! Ratios in lowest terms: the mathematics. -/
namespace K1

/-- the common divisor, with the bottom's sign -/
def com (t b : Int) : Int := if b > 0 then (Nat.gcd t.natAbs b.natAbs : Int) else -(Nat.gcd t.natAbs b.natAbs : Int)
def rT (t b : Int) : Int := t.fdiv (com t b)
def rB (t b : Int) : Int := b.fdiv (com t b)

theorem gcd_pos {t b : Int} (h : b ≠ 0) : 0 < (Nat.gcd t.natAbs b.natAbs : Int) := by
  have := Nat.gcd_pos_of_pos_right t.natAbs (show 0 < b.natAbs by omega)
  omega
theorem com_ne {t b : Int} (h : b ≠ 0) : com t b ≠ 0 := by
  have := gcd_pos (t := t) h
  unfold com
  split <;> omega
theorem com_dvd_t (t b : Int) : com t b ∣ t := by
  have h : (Nat.gcd t.natAbs b.natAbs : Int) ∣ t := Int.ofNat_dvd_left.mpr (Nat.gcd_dvd_left _ _)
  unfold com
  split
  · exact h
  · exact Int.neg_dvd.mpr h
theorem com_dvd_b (t b : Int) : com t b ∣ b := by
  have h : (Nat.gcd t.natAbs b.natAbs : Int) ∣ b := Int.ofNat_dvd_left.mpr (Nat.gcd_dvd_right _ _)
  unfold com
  split
  · exact h
  · exact Int.neg_dvd.mpr h
theorem fdiv_mul {a c : Int} (h : c ∣ a) : a.fdiv c * c = a := by
  obtain ⟨k, rfl⟩ := h
  by_cases hc : c = 0
  · subst hc; simp
  · rw [Int.mul_fdiv_cancel_left _ hc, Int.mul_comm]
theorem rT_mul (t b : Int) : rT t b * com t b = t := fdiv_mul (com_dvd_t t b)
theorem rB_mul (t b : Int) : rB t b * com t b = b := fdiv_mul (com_dvd_b t b)
theorem rB_pos {t b : Int} (h : b ≠ 0) : 0 < rB t b := by
  have e := rB_mul t b
  have g := gcd_pos (t := t) h
  unfold com at e
  by_cases hb : b > 0
  · rw [if_pos hb] at e
    exact Int.pos_of_mul_pos_left (by omega : 0 < rB t b * _) g |> fun z => z
  · rw [if_neg hb, Int.mul_neg] at e
    have z : 0 < rB t b * (Nat.gcd t.natAbs b.natAbs : Int) := by omega
    exact Int.pos_of_mul_pos_left z g

theorem com_abs (t b : Int) : (com t b).natAbs = Nat.gcd t.natAbs b.natAbs := by
  unfold com
  split
  · exact Int.natAbs_natCast _
  · rw [Int.natAbs_neg, Int.natAbs_natCast]
theorem red_cop {t b : Int} (h : b ≠ 0) : Nat.gcd (rT t b).natAbs (rB t b).natAbs = 1 := by
  have e1 := congrArg Int.natAbs (rT_mul t b)
  have e2 := congrArg Int.natAbs (rB_mul t b)
  rw [Int.natAbs_mul, com_abs] at e1 e2
  have g := Nat.gcd_pos_of_pos_right t.natAbs (show 0 < b.natAbs by omega)
  have z : Nat.gcd (rT t b).natAbs (rB t b).natAbs * Nat.gcd t.natAbs b.natAbs = 1 * Nat.gcd t.natAbs b.natAbs := by
    rw [← Nat.gcd_mul_right, e1, e2, Nat.one_mul]
  exact Nat.eq_of_mul_eq_mul_right g z
theorem low_unique {p q p' q' : Int} (hq : 0 < q) (hq' : 0 < q') (h : Nat.gcd p.natAbs q.natAbs = 1) (h' : Nat.gcd p'.natAbs q'.natAbs = 1) (e : p * q' = p' * q) : p = p' ∧ q = q' := by
  have n := congrArg Int.natAbs e
  rw [Int.natAbs_mul, Int.natAbs_mul] at n
  have d1 : q.natAbs ∣ q'.natAbs := Nat.Coprime.dvd_of_dvd_mul_left (k := q.natAbs) (m := p.natAbs) (show Nat.gcd q.natAbs p.natAbs = 1 by rw [Nat.gcd_comm]; exact h) ⟨p'.natAbs, by rw [n, Nat.mul_comm]⟩
  have d2 : q'.natAbs ∣ q.natAbs := Nat.Coprime.dvd_of_dvd_mul_left (k := q'.natAbs) (m := p'.natAbs) (show Nat.gcd q'.natAbs p'.natAbs = 1 by rw [Nat.gcd_comm]; exact h') ⟨p.natAbs, by rw [← n, Nat.mul_comm]⟩
  have eq : q = q' := by
    have := Nat.dvd_antisymm d1 d2
    omega
  subst eq
  exact ⟨Int.eq_of_mul_eq_mul_right (by omega) e, rfl⟩
/-- equal by the cross: told alike -/
theorem red_eq {t b t' b' : Int} (h : b ≠ 0) (h' : b' ≠ 0) (e : t * b' = t' * b) : rT t b = rT t' b' ∧ rB t b = rB t' b' := by
  refine low_unique (rB_pos h) (rB_pos h') (red_cop h) (red_cop h') ?_
  have c1 := com_ne (t := t) h
  have c2 := com_ne (t := t') h'
  have e1 := rT_mul t b
  have e2 := rB_mul t b
  have e3 := rT_mul t' b'
  have e4 := rB_mul t' b'
  have z : (rT t b * rB t' b') * (com t b * com t' b') = (rT t' b' * rB t b) * (com t b * com t' b') := by
    have l : (rT t b * rB t' b') * (com t b * com t' b') = (rT t b * com t b) * (rB t' b' * com t' b') := by ac_rfl
    have r : (rT t' b' * rB t b) * (com t b * com t' b') = (rT t' b' * com t' b') * (rB t b * com t b) := by ac_rfl
    rw [l, r, e1, e2, e3, e4, e]
  exact Int.eq_of_mul_eq_mul_right (Int.mul_ne_zero c1 c2) z
theorem red_low {t b : Int} (hb : 0 < b) (h : Nat.gcd t.natAbs b.natAbs = 1) : rT t b = t ∧ rB t b = b := by
  have c : com t b = 1 := by unfold com; rw [if_pos hb, h]; rfl
  unfold rT rB
  rw [c]
  exact ⟨Int.fdiv_one _, Int.fdiv_one _⟩
theorem red_one (t : Int) : rT t 1 = t ∧ rB t 1 = 1 := red_low (by decide) (by simp)
theorem cross {t b : Int} (h : b ≠ 0) : rT t b * b = t * rB t b := by
  have e1 := rT_mul t b
  have e2 := rB_mul t b
  have : rT t b * (rB t b * com t b) = rT t b * com t b * rB t b := by ac_rfl
  rw [e1, e2] at this
  exact this
theorem rT_zero {t b : Int} (h : b ≠ 0) : rT t b = 0 ↔ t = 0 := by
  have e := rT_mul t b
  constructor
  · intro z; rw [z] at e; simpa using e.symm
  · intro z; subst z; unfold rT; exact Int.zero_fdiv _
/-! bounds -/
theorem natAbs_le_mul {p c : Int} (hc : c ≠ 0) : p.natAbs ≤ (p * c).natAbs := by
  rw [Int.natAbs_mul]
  exact Nat.le_mul_of_pos_right _ (by omega)
theorem rT_le {t b : Int} (h : b ≠ 0) : (rT t b).natAbs ≤ t.natAbs := by
  have := natAbs_le_mul (p := rT t b) (com_ne (t := t) h)
  rwa [rT_mul] at this
theorem rB_le {t b : Int} (h : b ≠ 0) : (rB t b).natAbs ≤ b.natAbs := by
  have := natAbs_le_mul (p := rB t b) (com_ne (t := t) h)
  rwa [rB_mul] at this
/-! Euclid's loop, by the floor's rest -/
theorem euclid_step (a b : Int) : Int.gcd b (a.fmod b) = Int.gcd a b := by
  rw [Int.fmod_def, Int.gcd_sub_mul_left_right, Int.gcd_comm]
theorem fmod_small {a b : Int} (h : b ≠ 0) : (a.fmod b).natAbs < b.natAbs := by
  by_cases hb : 0 < b
  · have h1 := Int.fmod_nonneg_of_pos a hb
    have h2 := Int.fmod_lt_of_pos a hb
    omega
  · have e : a.fmod b = -((-a).fmod (-b)) := by
      have z := Int.neg_fmod_neg (a := a) (b := b)
      omega
    have h1 := Int.fmod_nonneg_of_pos (-a) (show 0 < -b by omega)
    have h2 := Int.fmod_lt_of_pos (-a) (show 0 < -b by omega)
    omega

section
variable {a0 a1 b0 b1 : Int} (ha : a1 ≠ 0) (hb : b1 ≠ 0)
include ha hb
theorem mul_ne : a1 * b1 ≠ 0 := Int.mul_ne_zero ha hb
theorem qq_ne : rB a0 a1 * rB b0 b1 ≠ 0 := Int.mul_ne_zero (by have := rB_pos (t := a0) ha; omega) (by have := rB_pos (t := b0) hb; omega)
theorem sum_red : rT (rT a0 a1 * rB b0 b1 + rT b0 b1 * rB a0 a1) (rB a0 a1 * rB b0 b1) = rT (a0 * b1 + b0 * a1) (a1 * b1) ∧ rB (rT a0 a1 * rB b0 b1 + rT b0 b1 * rB a0 a1) (rB a0 a1 * rB b0 b1) = rB (a0 * b1 + b0 * a1) (a1 * b1) := by
  refine red_eq (qq_ne ha hb) (mul_ne ha hb) ?_
  have x := cross (t := a0) ha
  have y := cross (t := b0) hb
  have l : (rT a0 a1 * rB b0 b1 + rT b0 b1 * rB a0 a1) * (a1 * b1) = (rT a0 a1 * a1) * (rB b0 b1 * b1) + (rT b0 b1 * b1) * (rB a0 a1 * a1) := by rw [Int.add_mul]; congr 1 <;> ac_rfl
  rw [l, x, y, Int.add_mul]
  congr 1 <;> ac_rfl
theorem dif_red : rT (rT a0 a1 * rB b0 b1 - rT b0 b1 * rB a0 a1) (rB a0 a1 * rB b0 b1) = rT (a0 * b1 - b0 * a1) (a1 * b1) ∧ rB (rT a0 a1 * rB b0 b1 - rT b0 b1 * rB a0 a1) (rB a0 a1 * rB b0 b1) = rB (a0 * b1 - b0 * a1) (a1 * b1) := by
  refine red_eq (qq_ne ha hb) (mul_ne ha hb) ?_
  have x := cross (t := a0) ha
  have y := cross (t := b0) hb
  have l : (rT a0 a1 * rB b0 b1 - rT b0 b1 * rB a0 a1) * (a1 * b1) = (rT a0 a1 * a1) * (rB b0 b1 * b1) - (rT b0 b1 * b1) * (rB a0 a1 * a1) := by rw [Int.sub_mul]; congr 1 <;> ac_rfl
  rw [l, x, y, Int.sub_mul]
  congr 1 <;> ac_rfl
theorem mul_red : rT (rT a0 a1 * rT b0 b1) (rB a0 a1 * rB b0 b1) = rT (a0 * b0) (a1 * b1) ∧ rB (rT a0 a1 * rT b0 b1) (rB a0 a1 * rB b0 b1) = rB (a0 * b0) (a1 * b1) := by
  refine red_eq (qq_ne ha hb) (mul_ne ha hb) ?_
  have x := cross (t := a0) ha
  have y := cross (t := b0) hb
  have l : rT a0 a1 * rT b0 b1 * (a1 * b1) = (rT a0 a1 * a1) * (rT b0 b1 * b1) := by ac_rfl
  rw [l, x, y]
  ac_rfl
theorem over_red (h0 : b0 ≠ 0) : rT (rT a0 a1 * rB b0 b1) (rB a0 a1 * rT b0 b1) = rT (a0 * b1) (a1 * b0) ∧ rB (rT a0 a1 * rB b0 b1) (rB a0 a1 * rT b0 b1) = rB (a0 * b1) (a1 * b0) := by
  have p2 : rT b0 b1 ≠ 0 := fun z => h0 ((rT_zero hb).mp z)
  refine red_eq (Int.mul_ne_zero (by have := rB_pos (t := a0) ha; omega) p2) (Int.mul_ne_zero ha h0) ?_
  have x := cross (t := a0) ha
  have y := cross (t := b0) hb
  have l : rT a0 a1 * rB b0 b1 * (a1 * b0) = (rT a0 a1 * a1) * (b0 * rB b0 b1) := by ac_rfl
  rw [l, x, ← y]
  ac_rfl
/-- how the two stand to each other -/
theorem cmp_red : (rT a0 a1 * rB b0 b1 - rT b0 b1 * rB a0 a1) * ((a1 * b1) * (a1 * b1)) = ((a0 * b1 - b0 * a1) * (a1 * b1)) * (rB a0 a1 * rB b0 b1) := by
  have x := cross (t := a0) ha
  have y := cross (t := b0) hb
  have l : (rT a0 a1 * rB b0 b1 - rT b0 b1 * rB a0 a1) * (a1 * b1) = (a0 * b1 - b0 * a1) * (rB a0 a1 * rB b0 b1) := by
    have l : (rT a0 a1 * rB b0 b1 - rT b0 b1 * rB a0 a1) * (a1 * b1) = (rT a0 a1 * a1) * (rB b0 b1 * b1) - (rT b0 b1 * b1) * (rB a0 a1 * a1) := by rw [Int.sub_mul]; congr 1 <;> ac_rfl
    rw [l, x, y, Int.sub_mul]
    congr 1 <;> ac_rfl
  rw [← Int.mul_assoc, l]
  ac_rfl
theorem qq_pos : 0 < rB a0 a1 * rB b0 b1 := Int.mul_pos (rB_pos ha) (rB_pos hb)
theorem sq_pos : 0 < (a1 * b1) * (a1 * b1) := by
  have h := mul_ne ha hb
  rcases Int.lt_or_gt_of_ne h with z | z
  · exact Int.mul_pos_of_neg_of_neg z z
  · exact Int.mul_pos z z
theorem cmp_zero : rT a0 a1 * rB b0 b1 = rT b0 b1 * rB a0 a1 ↔ (a0 * b1 - b0 * a1) * (a1 * b1) = 0 := by
  have e := cmp_red (a0 := a0) (b0 := b0) ha hb
  have p := qq_pos (a0 := a0) (b0 := b0) ha hb
  have s := sq_pos ha hb
  constructor
  · intro z
    rw [z, Int.sub_self, Int.zero_mul] at e
    rcases Int.mul_eq_zero.mp e.symm with q | q
    · exact q
    · omega
  · intro z
    rw [z, Int.zero_mul] at e
    rcases Int.mul_eq_zero.mp e with q | q
    · omega
    · omega
theorem cmp_lt : rT a0 a1 * rB b0 b1 < rT b0 b1 * rB a0 a1 ↔ (a0 * b1 - b0 * a1) * (a1 * b1) < 0 := by
  have e := cmp_red (a0 := a0) (b0 := b0) ha hb
  have p := qq_pos (a0 := a0) (b0 := b0) ha hb
  have s := sq_pos ha hb
  have k : ∀ {x y : Int}, 0 < y → (x * y < 0 ↔ x < 0) := fun {x y} hy => by
    constructor
    · intro h
      rcases Int.lt_or_le x 0 with q | q
      · exact q
      · have := Int.mul_nonneg q (Int.le_of_lt hy); omega
    · intro h; exact Int.mul_neg_of_neg_of_pos h hy
  have z := k (x := rT a0 a1 * rB b0 b1 - rT b0 b1 * rB a0 a1) s
  rw [e, k p] at z
  omega
end
theorem neg_red {a0 a1 : Int} (ha : a1 ≠ 0) : rT (-rT a0 a1) (rB a0 a1) = rT (-a0) a1 ∧ rB (-rT a0 a1) (rB a0 a1) = rB (-a0) a1 := by
  refine red_eq (by have := rB_pos (t := a0) ha; omega) ha ?_
  rw [Int.neg_mul, Int.neg_mul, cross ha]
theorem abs_red {a0 a1 : Int} (ha : a1 ≠ 0) : rT ((rT a0 a1).natAbs : Int) (rB a0 a1) = rT (a0.natAbs : Int) (a1.natAbs : Int) ∧ rB ((rT a0 a1).natAbs : Int) (rB a0 a1) = rB (a0.natAbs : Int) (a1.natAbs : Int) := by
  have q := rB_pos (t := a0) ha
  refine red_eq (by omega) (by omega) ?_
  have e := congrArg Int.natAbs (cross (t := a0) ha)
  rw [Int.natAbs_mul, Int.natAbs_mul] at e
  have z : ((rB a0 a1).natAbs : Int) = rB a0 a1 := by omega
  have e2 := congrArg (fun n : Nat => (n : Int)) e
  simp only [Int.natCast_mul] at e2
  rw [z] at e2
  exact e2
end K1

/-! k05: ratios in sixths. -/
namespace K5
open K1

theorem six_ne : (6 : Int) ≠ 0 := by decide
theorem six_add (a b : Int) : rT (rT a 6 * rB b 6 + rT b 6 * rB a 6) (rB a 6 * rB b 6) = rT (a + b) 6 ∧ rB (rT a 6 * rB b 6 + rT b 6 * rB a 6) (rB a 6 * rB b 6) = rB (a + b) 6 := by
  obtain ⟨x, y⟩ := sum_red (a0 := a) (b0 := b) six_ne six_ne
  obtain ⟨u, v⟩ := red_eq (t := a * 6 + b * 6) (b := 6 * 6) (t' := a + b) (b' := 6) (by decide) six_ne (by omega)
  exact ⟨x.trans u, y.trans v⟩
theorem six_neg (a : Int) : rT (-rT a 6) (rB a 6) = rT (-a) 6 ∧ rB (-rT a 6) (rB a 6) = rB (-a) 6 := neg_red six_ne
theorem six_int (n : Int) : rT (6 * n) 6 = n ∧ rB (6 * n) 6 = 1 := by
  obtain ⟨x, y⟩ := red_eq (t := 6 * n) (b := 6) (t' := n) (b' := 1) six_ne (by decide) (by omega)
  obtain ⟨u, v⟩ := red_one n
  exact ⟨x.trans u, y.trans v⟩
theorem six_cross (a : Int) : rT a 6 * 6 = a * rB a 6 := cross six_ne
theorem six_pos (a : Int) : 0 < rB a 6 := rB_pos six_ne
theorem six_is (a t : Int) : (6 * rT a 6 = t * rB a 6) ↔ a = t := by
  have h := six_cross a
  have p := six_pos a
  constructor
  · intro e
    have z : a * rB a 6 = t * rB a 6 := by omega
    exact Int.eq_of_mul_eq_mul_right (by omega) z
  · rintro rfl
    omega
theorem six_inj (a b : Int) : (rT a 6 = rT b 6 ∧ rB a 6 = rB b 6) ↔ a = b := by
  constructor
  · rintro ⟨x, y⟩
    have h := six_cross a
    have k := six_cross b
    rw [x, y] at h
    have p := six_pos b
    exact Int.eq_of_mul_eq_mul_right (by omega : rB b 6 ≠ 0) (by omega)
  · rintro rfl
    exact ⟨rfl, rfl⟩
theorem six_sign (a : Int) : (rT a 6 = 0 ↔ a = 0) ∧ (rT a 6 > 0 ↔ a > 0) := by
  have h := six_cross a
  have p := six_pos a
  refine ⟨rT_zero six_ne, ?_, ?_⟩
  · intro z
    have q : 0 < a * rB a 6 := by omega
    exact Int.pos_of_mul_pos_left q p
  · intro z
    have q : 0 < a * rB a 6 := Int.mul_pos z p
    omega
theorem six_le (a : Int) : (rT a 6).natAbs ≤ a.natAbs ∧ (rB a 6).natAbs ≤ 6 := ⟨rT_le six_ne, rB_le six_ne⟩
end K5

/-! k05: ratios in sixths as objects; their makings, sums, negatives, ==. -/
namespace K5
open PySem PySem.Spec PyProof.Rows L2 LamX K1 K18

theorem pe_dead {X : Cx} {e : Expr} : PE X e (fun _ _ _ => False) := ⟨fun _ _ _ _ _ _ h => h.elim⟩
theorem pss_dead {X : Cx} {st : List Stmt} : PSs X st (fun _ _ _ => False) := ⟨fun _ _ _ _ _ _ h => h.elim⟩
/-- a class whose instances are tracked -/
structure ClsF (K : PySem.W.Frag) (C : Addr) : Prop where
  cl : Cls K C
  ha : PySem.W.findIn K (.ref C) "__class__" = some (some (.builtin "object.__class__"))
  hn : PySem.W.specialIn K (.builtin "object.__class__") "__get__" = some (some (.builtin "getset_descriptor.__get__"))
  ht : PySem.W.takesIn K (.builtin "object.__class__") = some true
  hm : PySem.W.mroIn K C (.type "object") = some true
  me : PySem.W.kitOne K (.ref C) (.ref C) = some true
theorem ClsF.ty {K : PySem.W.Frag} {C a dx : Addr} {H : Hp} {fs : List (Str × V)} (F : ClsF K C) (h : H a = some (.ins C dx fs)) : TyOf K H (.ref a) (.ref C) := .ins h F.cl F.ha F.hn F.ht F.hm
/-- // of ints by any divisor of less than 9000 bits, below 0 too -/
def CDivZ (_ j : Int) : Prop := j ≠ 0 ∧ j.natAbs.log2 < 9000
theorem op_fdivZ {X : Cx} : OpR X (binaryOp .FloorDiv) (rI CDivZ fun i j => .int (i.fdiv j)) := opI fun i j _ _ _ _ _ hc q => floordiv_int hc.1 q (.inl (PyProof.noPylong_of_log2 hc.2))
theorem decI (a b : Int) : decide (V.int a = V.int b) = decide (a = b) := decide_eq_decide.mpr ⟨fun h => V.int.inj h, fun h => by rw [h]⟩
theorem decS (a b : Str) : decide (V.str a = V.str b) = decide (a = b) := decide_eq_decide.mpr ⟨fun h => V.str.inj h, fun h => by rw [h]⟩
theorem tb_ne : ¬ (("top" : Str) = "bottom") := by decide +kernel
/-- its attributes -/
def fsR (t b : Int) : List (Str × V) := putF "bottom" (.int b) (putF "top" (.int t) [])
theorem fsR_top (t b : Int) : (fsR t b).lookup ("top" : Str) = some (.int t) := by unfold fsR; rw [lookup_putF, if_neg tb_ne, lookup_putF, if_pos rfl]
theorem fsR_bottom (t b : Int) : (fsR t b).lookup ("bottom" : Str) = some (.int b) := by unfold fsR; rw [lookup_putF, if_pos rfl]
/-- at a stands the Ratio of s sixths -/
def Six (C : Addr) (H : Hp) (a : Addr) (s : Int) : Prop := ∃ dx, H a = some (.ins C dx (fsR (rT s 6) (rB s 6)))
theorem Six.same {C : Addr} {H H' : Hp} {a : Addr} {s : Int} (e : Same H H') (h : Six C H a s) : Six C H' a s := let ⟨dx, h⟩ := h; ⟨dx, e _ _ h⟩
/-- .. or the integer -/
def SixV (C : Addr) (H : Hp) (v : V) (s : Int) : Prop := (∃ a, v = .ref a ∧ Six C H a s) ∨ ∃ n, v = .int n ∧ s = 6 * n
theorem SixV.same {C : Addr} {H H' : Hp} {v : V} {s : Int} (e : Same H H') (h : SixV C H v s) : SixV C H' v s := h.imp (fun ⟨a, x, y⟩ => ⟨a, x, y.same e⟩) id
/-- not too great -/
abbrev Sm (s : Int) : Prop := s.natAbs < 2 ^ 60
structure RatF (K : PySem.W.Frag) (C : Addr) : Prop extends ClsF K C where
  nT : NoAttr K C "top"
  nB : NoAttr K C "bottom"
  noI : PySem.W.kitOne K (.ref C) (.type "int") = some false
  int : PySem.W.kitOne K (.type "int") (.ref C) = some false
theorem int_ty {K : PySem.W.Frag} {H : Hp} (n : Int) : TyOf K H (.int n) (.type "int") := .int n
def spRI (C : Addr) : Sp := fun vs H Q _ => ∃ (p dx : Addr) (t b : Int), vs = [.ref p, .int t, .int b] ∧ H p = some (.ins C dx []) ∧ b ≠ 0 ∧ t.natAbs < 2 ^ 100 ∧ b.natAbs < 2 ^ 100 ∧ Q .non (upd H p (.ins C dx (fsR (rT t b) (rB t b))))
section
variable {P : Program} {w : World} {K : PySem.W.Frag} {mg : Str → Option Value} {base : Heap} {f C : Addr} {fd : FuncData} {dv : List V}
theorem okD {x qual : Str} {st : Stmt} {N ps : List Str} {k : Nat} {sp : Sp}
    (F : FunD K x qual (defArgs st) (defBody st) (defScope st) dv [] f fd) (S : FnScope N ps (defScope st)) (len : ∀ vs H Q E, sp vs H Q E → vs.length = ps.length)
    (hb : ∀ (cdv : Value) (A : Around) (outer : List Env) (s : Shared) (H : Hp) (vs : List V) (Q : VK) (E : XK), Room k (A.deeper (envOfC qual (defScope st) s.heap.objs.size f cdv)) → sp vs H Q E →
      ∃ t, PSs (cxOf CX0 P w K mg base N qual (defScope st) f cdv A outer s H E).nox (defBody st) t ∧ t { nx := fun _ H' => Q .non H', rt := Q } (start N vs) H) : FnOk P w K mg base CX0 (k + 1) f fd ps sp :=
  F.ok S len fun cdv A outer s H vs Q E hr h => let ⟨t, h1, h2⟩ := hb cdv A outer s H vs Q E hr h; ⟨t, h1.nox, h2⟩
theorem scRI : FnScope ["self", "top", "bottom", "shared"] ["self", "top", "bottom"] (defScope sRInit) := ⟨rfl, rfl, rfl, by decide +kernel, rfl, by decide +kernel, by decide +kernel⟩
theorem ok_rinit (G : Glob mg) (R : RatF K C) (HI : HasInt P w K mg base) (F : FunD K "__init__" "Ratio.__init__" (defArgs sRInit) (defBody sRInit) (defScope sRInit) dv [] f fd) :
    FnOk P w K mg base CX0 2 f fd ["self", "top", "bottom"] (spRI C) := by
  obtain ⟨fi, fdi, mI, kI, bI, GI⟩ := HI.h
  refine okD F scRI (fun vs H Q E ⟨p, dx, vt, vb, e, _⟩ => by rw [e]; rfl) (fun cdv A outer s H vs Q E hr ⟨p, dx, t, b, e, hp, b0, st, sb, q⟩ => ?_)
  subst e
  refine ⟨_, pss_cons (ps_if (pt_not (pt_val (pe_call GI hr rfl mI kI bI .nil pass0 (pa_cons (pv 1) pa_nil)))) pss_dead pss_nil)
    (pss_cons (ps_if (PW.pt (pw_or (pt_not (pt_val (pe_call GI hr rfl mI kI bI .nil pass0 (pa_cons (pv 2) pa_nil)))) (pw_or1 (pt_cmpR op_eq (pv 2) pe_int (nomark _))))) pss_dead pss_nil)
    (pss_cons (ps_set (i := 3) scRI.nd rfl (Or.inl rfl) (pe_ifExp (pt_cmpR op_gt (pv 2) pe_int (nomark _)) (pe_callBfun cr_gcd (by rfl) G.gcd (pa_cons (pv 1) (pa_cons (pv 2) pa_nil)))
      (pe_un un_neg (pe_callBfun cr_gcd (by rfl) G.gcd (pa_cons (pv 1) (pa_cons (pv 2) pa_nil))))))
    (pss_cons (ps_fld (pv 0) (pe_op op_fdivZ (pv 1) (pv 3)) rfl)
    (pss_one (ps_fld (pv 0) (pe_op op_fdivZ (pv 2) (pv 3)) rfl))))), ?_⟩
  refine ⟨_, rfl, _, rfl, .inr ⟨t, rfl, true, rfl, iteF ?_⟩⟩
  refine ⟨_, rfl, _, rfl, .inr ⟨b, rfl, true, rfl, iteF ?_⟩⟩
  refine ⟨_, rfl, rfl, false, by rw [decI, decide_eq_false b0], iteF ?_⟩
  have dv : ∀ x, CDivZ x (com t b) := fun x => ⟨com_ne b0, by
    have g : (com t b).natAbs ≤ b.natAbs := by rw [com_abs]; exact Nat.gcd_le_right _ (by omega)
    exact Nat.lt_of_lt_of_le (PySem.Flt.log2_lt_of (by decide) (Nat.lt_of_le_of_lt g sb)) (by decide)⟩
  have c1 : ∀ {z : Int}, b > 0 → ((Nat.gcd t.natAbs b.natAbs : Nat) : Int) = z → z = com t b := fun h e => by rw [← e]; unfold com; rw [if_pos h]
  have c2 : ∀ {z : Int}, ¬ b > 0 → -((Nat.gcd t.natAbs b.natAbs : Nat) : Int) = z → z = com t b := fun h e => by rw [← e]; unfold com; rw [if_neg h]
  refine ⟨_, rfl, _, _, rfl, rfl, decide (0 < b), rfl, ?_⟩
  by_cases hb : b > 0
  · rw [decide_eq_true hb]
    refine iteT ⟨_, rfl, _, rfl, t, b, rfl, ?_⟩
    generalize hz : ((Nat.gcd t.natAbs b.natAbs : Nat) : Int) = z
    obtain rfl := c1 hb hz
    refine ⟨_, rfl, _, rfl, _, _, rfl, rfl, dv _, _, rfl, p, C, dx, [], rfl, hp, R.cl, R.nT, (by show 0 < 1000; decide), ?_⟩
    refine ⟨_, rfl, _, rfl, _, _, rfl, rfl, dv _, _, rfl, p, C, dx, _, rfl, upd_same, R.cl, R.nB, (by show 1 < 1000; decide), ?_⟩
    rw [upd_upd]
    exact q
  · rw [decide_eq_false hb]
    refine iteF ⟨_, rfl, _, rfl, t, b, rfl, _, rfl, ?_⟩
    have e : com t b = -((Nat.gcd t.natAbs b.natAbs : Nat) : Int) := (c2 hb rfl).symm
    unfold rT rB at q
    rw [e] at q
    rw [e] at dv
    refine ⟨_, rfl, _, rfl, _, _, rfl, rfl, dv _, _, rfl, p, C, dx, [], rfl, hp, R.cl, R.nT, (by show 0 < 1000; decide), ?_⟩
    refine ⟨_, rfl, _, rfl, _, _, rfl, rfl, dv _, _, rfl, p, C, dx, _, rfl, upd_same, R.cl, R.nB, (by show 1 < 1000; decide), ?_⟩
    rw [upd_upd]
    exact q
end
/-- Ratio(e), Ratio(e, e') -/
structure MkR (P : Program) (w : World) (K : PySem.W.Frag) (mg : Str → Option Value) (base : Heap) (C : Addr) : Prop where
  g : mg "Ratio" = some (.ref C)
  m : ∃ f fd ds, Mk K C f ∧ FnOk P w K mg base CX0 2 f fd ["self", "top", "bottom"] (spRI C) ∧ Binds K fd ["self", "top", "bottom"] [] ∧ Vals [V.int 1] ds ∧ Binds K fd ["self", "top", "bottom"] ds
/-- what is wanted of a new Ratio of s sixths -/
abbrev NewS (C : Addr) (H : Hp) (s : Int) (Q : VK) : Prop := ∀ (p : Addr) (H' : Hp), Same H H' → H p = none → Six C H' p s → Q (.ref p) H'
theorem mk_six {C : Addr} {H : Hp} {t b s : Int} {Q : VK} {E : XK} (b0 : b ≠ 0) (st : t.natAbs < 2 ^ 100) (sb : b.natAbs < 2 ^ 100) (e : rT t b = rT s 6 ∧ rB t b = rB s 6) (q : NewS C H s Q) :
    ∀ x dx, H x = none → H dx = none → dx ≠ x → spRI C [.ref x, .int t, .int b] (upd (upd H dx (.own x)) x (.ins C dx [])) (fun v H2 => v = .non ∧ Q (.ref x) H2) E := fun x dx hx hd ne =>
  ⟨x, dx, _, _, rfl, upd_same, b0, st, sb, rfl, by
    rw [upd_upd, e.1, e.2]
    exact q x _ (fun o u e => by rw [upd_ne (ne_of_none e hx), upd_ne (ne_of_none e hd)]; exact e) hx ⟨dx, upd_same⟩⟩
theorem mk_one {C : Addr} {H : Hp} {n : Int} {Q : VK} {E : XK} (st : n.natAbs < 2 ^ 100) (q : NewS C H (6 * n) Q) :
    ∀ x dx, H x = none → H dx = none → dx ≠ x → spRI C [.ref x, .int n, .int 1] (upd (upd H dx (.own x)) x (.ins C dx [])) (fun v H2 => v = .non ∧ Q (.ref x) H2) E :=
  mk_six (by decide) st (by decide) (by obtain ⟨a, b⟩ := red_one n; obtain ⟨c, d⟩ := six_int n; exact ⟨a.trans c.symm, b.trans d.symm⟩) q
theorem six_b {s : Int} (h : Sm s) : -(2 ^ 60) < rT s 6 ∧ rT s 6 < 2 ^ 60 ∧ 0 < rB s 6 ∧ rB s 6 ≤ 6 := by
  have := six_le s
  have := six_pos s
  refine ⟨?_, ?_, this, ?_⟩ <;> omega
theorem mul_b {x y : Int} (h : -(2 ^ 60) < x ∧ x < 2 ^ 60) (k : 0 < y ∧ y ≤ 6) : (x * y).natAbs < 2 ^ 64 := by
  rw [Int.natAbs_mul]
  have a : x.natAbs ≤ 2 ^ 60 := by omega
  have b : y.natAbs ≤ 6 := by omega
  have := Nat.mul_le_mul a b
  omega
def spRight (C : Addr) : Sp := fun vs H Q _ => ∃ v s, vs = [v] ∧ SixV C H v s ∧ Sm s ∧ ∀ p H', Same H H' → Six C H' p s → Q (.ref p) H'
def spSum (C : Addr) : Sp := fun vs H Q _ => ∃ a v s s2, vs = [.ref a, v] ∧ Six C H a s ∧ SixV C H v s2 ∧ Sm s ∧ Sm s2 ∧ NewS C H (s + s2) Q
def spNeg (C : Addr) : Sp := fun vs H Q _ => ∃ a s, vs = [.ref a] ∧ Six C H a s ∧ Sm s ∧ NewS C H (-s) Q
def spREq (C : Addr) : Sp := fun vs H Q _ => ∃ a b s s2, vs = [.ref a, .ref b] ∧ Six C H a s ∧ Six C H b s2 ∧ Q (.bl (decide (s = s2))) H
def spSign (C : Addr) : Sp := fun vs H Q _ => ∃ a s, vs = [.ref a] ∧ Six C H a s ∧ Q (.int (if s = 0 then 0 else if s > 0 then 1 else -1)) H
def spIsRatio (C : Addr) : Sp := fun vs H Q _ => ∃ v s, vs = [v] ∧ SixV C H v s ∧ Q (.bl true) H
def spAmount (C : Addr) : Sp := fun vs H Q _ => ∃ v s, vs = [v] ∧ SixV C H v s ∧ Sm s ∧ 0 ≤ s ∧ ∀ H', Same H H' → Q (.bl true) H'
section
variable {P : Program} {w : World} {K : PySem.W.Frag} {mg : Str → Option Value} {base : Heap} {f C : Addr} {fd : FuncData}
abbrev HasRight (P : Program) (w : World) (K : PySem.W.Frag) (mg : Str → Option Value) (base : Heap) (C : Addr) : Prop := Has P w K mg base CX0 4 "_right" ["other"] (spRight C)
abbrev HasIsR (P : Program) (w : World) (K : PySem.W.Frag) (mg : Str → Option Value) (base : Heap) (C : Addr) : Prop := Has P w K mg base CX0 2 "is_ratio" ["value"] (spIsRatio C)
theorem scRight : FnScope ["other"] ["other"] (defScope sRight) := ⟨rfl, rfl, rfl, by decide +kernel, rfl, by decide +kernel, by decide +kernel⟩
theorem ok_right (G : Glob mg) (R : RatF K C) (HI : HasInt P w K mg base) (MR : MkR P w K mg base C) (F : DefAt K "_right" "_right" sRight f fd) : FnOk P w K mg base CX0 4 f fd ["other"] (spRight C) := by
  obtain ⟨fi, fdi, mI, kI, bI, GI⟩ := HI.h
  obtain ⟨fm, fdm, ds, M, GM, _, hv, bM⟩ := MR.m
  refine okN F scRight (fun vs H Q E ⟨v, s, e, _⟩ => by rw [e]; rfl) (fun cdv A outer s H vs Q E hr ⟨v, n, e, h, sm, q⟩ => ?_)
  subst e
  refine ⟨_, pss_cons (ps_if (pt_val (pe_callB call_isi (by rfl) G.isi (by decide +kernel) (pa_cons (pv 0) (pa_cons (pe_glob (v := .ref C) rfl MR.g rfl) pa_nil)))) (pss_one (ps_ret (pv 0))) pss_nil)
    (pss_cons (ps_if (pt_not (pt_val (pe_call GI (hr.mono (by decide)) rfl mI kI bI .nil pass0 (pa_cons (pv 0) pa_nil)))) pss_dead pss_nil)
    (pss_one (ps_ret (pe_make M GM hr rfl MR.g bM hv pass0 (pa_cons (pv 0) pa_nil))))), ?_⟩
  rcases h with ⟨a, rfl, ha⟩ | ⟨n, rfl, rfl⟩
  · obtain ⟨dx, h1⟩ := id ha
    exact ⟨_, rfl, _, _, _, _, _, rfl, .own C, .base (R.ty h1), R.me, true, rfl, iteT ⟨_, rfl, q a H (Same.refl H) ha⟩⟩
  · refine ⟨_, rfl, _, _, _, _, _, rfl, .own C, .base (.int n), R.int, false, rfl, iteF ?_⟩
    refine ⟨_, rfl, _, rfl, .inr ⟨n, rfl, true, rfl, iteF ?_⟩⟩
    exact ⟨_, rfl, mk_one (by omega) fun p H' s _ hp => q p H' s hp⟩
theorem scAdd : FnScope ["self", "other", "right"] ["self", "other"] (defScope sRAdd) := ⟨rfl, rfl, rfl, by decide +kernel, rfl, by decide +kernel, by decide +kernel⟩
theorem ok_add (R : RatF K C) (HR : HasRight P w K mg base C) (MR : MkR P w K mg base C) (F : DefAt K "__add__" "Ratio.__add__" sRAdd f fd) : FnOk P w K mg base CX0 5 f fd ["self", "other"] (spSum C) := by
  obtain ⟨fr, fdr, mR, kR, bR, GR⟩ := HR.h
  obtain ⟨fm, fdm, ds, M, GM, bM, _, _⟩ := MR.m
  refine okN F scAdd (fun vs H Q E ⟨a, v, s, s2, e, _⟩ => by rw [e]; rfl) (fun cdv A outer s H vs Q E hr ⟨a, v, n, n2, e, ha, hv, sm, sm2, q⟩ => ?_)
  subst e
  refine ⟨_, pss_cons (ps_set (i := 2) scAdd.nd rfl (Or.inl rfl) (pe_call GR hr rfl mR kR bR .nil pass0 (pa_cons (pv 1) pa_nil)))
    (pss_one (ps_ret (pe_make M GM (hr.mono (by decide)) rfl MR.g bM .nil pass0 (pa_cons (pe_op op_add (pe_op op_mul (pe_fld (pv 0) rfl) (pe_fld (pv 2) rfl)) (pe_op op_mul (pe_fld (pv 2) rfl) (pe_fld (pv 0) rfl))) (pa_cons (pe_op op_mul (pe_fld (pv 0) rfl) (pe_fld (pv 2) rfl)) pa_nil))))), ?_⟩
  refine ⟨_, rfl, _, n2, rfl, hv, sm2, fun p H1 s1 hp => ?_⟩
  obtain ⟨dx, h1⟩ := ha.same s1
  obtain ⟨dy, h2⟩ := hp
  obtain ⟨x0, x1, x2, x3⟩ := six_b sm
  obtain ⟨y0, y1, y2, y3⟩ := six_b sm2
  have m1 := mul_b ⟨x0, x1⟩ ⟨y2, y3⟩
  have m2 := mul_b ⟨y0, y1⟩ ⟨x2, x3⟩
  have m3 := mul_b (x := rB n 6) (y := rB n2 6) ⟨by omega, by omega⟩ ⟨y2, y3⟩
  refine ⟨_, rfl, a, C, dx, _, _, rfl, h1, R.cl, R.nT, fsR_top _ _, _, rfl, p, C, dy, _, _, rfl, h2, R.cl, R.nB, fsR_bottom _ _, _, _, rfl, rfl, .inl ⟨by omega, by omega⟩, ?_⟩
  refine ⟨_, rfl, p, C, dy, _, _, rfl, h2, R.cl, R.nT, fsR_top _ _, _, rfl, a, C, dx, _, _, rfl, h1, R.cl, R.nB, fsR_bottom _ _, _, _, rfl, rfl, .inl ⟨by omega, by omega⟩, _, _, rfl, rfl, ?_⟩
  refine ⟨_, rfl, a, C, dx, _, _, rfl, h1, R.cl, R.nB, fsR_bottom _ _, _, rfl, p, C, dy, _, _, rfl, h2, R.cl, R.nB, fsR_bottom _ _, _, _, rfl, rfl, .inl ⟨by omega, by omega⟩, ?_⟩
  refine mk_six (Int.mul_ne_zero (by omega) (by omega)) (by omega) (by omega) (six_add n n2) fun p' H' s' np h' => q p' H' (s1.trans s') (s1.free np) h'
theorem scNeg : FnScope ["self"] ["self"] (defScope sRNeg) := ⟨rfl, rfl, rfl, by decide +kernel, rfl, by decide +kernel, by decide +kernel⟩
theorem ok_neg (R : RatF K C) (MR : MkR P w K mg base C) (F : DefAt K "__neg__" "Ratio.__neg__" sRNeg f fd) : FnOk P w K mg base CX0 4 f fd ["self"] (spNeg C) := by
  obtain ⟨fm, fdm, ds, M, GM, bM, _, _⟩ := MR.m
  refine okN F scNeg (fun vs H Q E ⟨a, s, e, _⟩ => by rw [e]; rfl) (fun cdv A outer s H vs Q E hr ⟨a, n, e, ha, sm, q⟩ => ?_)
  subst e
  refine ⟨_, pss_one (ps_ret (pe_make M GM hr rfl MR.g bM .nil pass0 (pa_cons (pe_un un_neg (pe_fld (pv 0) rfl)) (pa_cons (pe_fld (pv 0) rfl) pa_nil)))), ?_⟩
  obtain ⟨dx, h1⟩ := ha
  obtain ⟨x0, x1, x2, x3⟩ := six_b sm
  refine ⟨_, rfl, a, C, dx, _, _, rfl, h1, R.cl, R.nT, fsR_top _ _, _, rfl, _, rfl, a, C, dx, _, _, rfl, h1, R.cl, R.nB, fsR_bottom _ _, ?_⟩
  exact mk_six (by omega) (by omega) (by omega) (six_neg n) q
theorem scREq : FnScope ["self", "other"] ["self", "other"] (defScope sREq) := ⟨rfl, rfl, rfl, by decide +kernel, rfl, by decide +kernel, by decide +kernel⟩
theorem ok_req (G : Glob mg) (R : RatF K C) (gR : mg "Ratio" = some (.ref C)) (F : DefAt K "__eq__" "Ratio.__eq__" sREq f fd) : FnOk P w K mg base CX0 1 f fd ["self", "other"] (spREq C) := by
  refine okN F scREq (fun vs H Q E ⟨a, b, s, s2, e, _⟩ => by rw [e]; rfl) (fun cdv A outer s H vs Q E hr ⟨a, b, n, n2, e, ha, hb, q⟩ => ?_)
  subst e
  obtain ⟨dx, h1⟩ := ha
  obtain ⟨dy, h2⟩ := hb
  refine ⟨_, pss_cons (ps_if (pt_val (pe_callB call_isi (by rfl) G.isi (by decide +kernel) (pa_cons (pv 1) (pa_cons (pe_glob (v := .ref C) rfl gR rfl) pa_nil))))
      (pss_one (ps_ret (pe_and (pe_cmpR op_eq (pe_fld (pv 0) rfl) (pe_fld (pv 1) rfl) (nomark _)) (pe_one (pe_cmpR op_eq (pe_fld (pv 0) rfl) (pe_fld (pv 1) rfl) (nomark _)))))) pss_nil)
    (pss_one (ps_ret pe_dead)), ?_⟩
  refine ⟨_, rfl, _, _, _, _, _, rfl, .own C, .base (R.ty h2), R.me, true, rfl, iteT ?_⟩
  refine ⟨_, rfl, a, C, dx, _, _, rfl, h1, R.cl, R.nT, fsR_top _ _, _, rfl, b, C, dy, _, _, rfl, h2, R.cl, R.nT, fsR_top _ _, rfl, _, rfl, ?_⟩
  rw [decI]
  have i := six_inj n n2
  by_cases e : rT n 6 = rT n2 6
  · rw [decide_eq_true e]
    refine iteT ⟨_, rfl, a, C, dx, _, _, rfl, h1, R.cl, R.nB, fsR_bottom _ _, _, rfl, b, C, dy, _, _, rfl, h2, R.cl, R.nB, fsR_bottom _ _, rfl, ?_⟩
    rw [decI, decide_eq_decide.mpr (show rB n 6 = rB n2 6 ↔ n = n2 from ⟨fun z => i.mp ⟨e, z⟩, fun z => (i.mpr z).2⟩)]
    exact q
  · rw [decide_eq_false e]
    rw [decide_eq_false (show ¬ n = n2 from fun z => e (i.mpr z).1)] at q
    exact iteF q
theorem scSign : FnScope ["self"] ["self"] (defScope sRSign) := ⟨rfl, rfl, rfl, by decide +kernel, rfl, by decide +kernel, by decide +kernel⟩
theorem ok_sign (R : RatF K C) (F : DefAt K "sign" "Ratio.sign" sRSign f fd) : FnOk P w K mg base CX0 1 f fd ["self"] (spSign C) := by
  refine okN F scSign (fun vs H Q E ⟨a, s, e, _⟩ => by rw [e]; rfl) (fun cdv A outer s H vs Q E hr ⟨a, n, e, ha, q⟩ => ?_)
  subst e
  obtain ⟨dx, h1⟩ := ha
  refine ⟨_, pss_cons (ps_if (pt_cmpR op_eq (pe_fld (pv 0) rfl) pe_int (nomark _)) (pss_one (ps_ret pe_int)) pss_nil)
    (pss_one (ps_ret (pe_ifExp (pt_cmpR op_gt (pe_fld (pv 0) rfl) pe_int (nomark _)) pe_int (pe_un un_neg pe_int)))), ?_⟩
  refine ⟨_, rfl, a, C, dx, _, _, rfl, h1, R.cl, R.nT, fsR_top _ _, rfl, _, rfl, ?_⟩
  obtain ⟨z1, z2⟩ := six_sign n
  by_cases e : rT n 6 = 0
  · rw [decI, decide_eq_true e]
    rw [if_pos (z1.mp e)] at q
    exact iteT q
  · rw [decI, decide_eq_false e]
    rw [if_neg fun z => e (z1.mpr z)] at q
    refine iteF ⟨_, rfl, a, C, dx, _, _, rfl, h1, R.cl, R.nT, fsR_top _ _, _, _, rfl, rfl, decide (0 < rT n 6), rfl, ?_⟩
    by_cases l : rT n 6 > 0
    · rw [decide_eq_true l]
      rw [if_pos (z2.mp l)] at q
      exact iteT q
    · rw [decide_eq_false l]
      rw [if_neg fun z => l (z2.mpr z)] at q
      exact iteF ⟨_, rfl, q⟩
theorem scIsR : FnScope ["value"] ["value"] (defScope sIsRatio) := ⟨rfl, rfl, rfl, by decide +kernel, rfl, by decide +kernel, by decide +kernel⟩
theorem ok_isR (G : Glob mg) (R : RatF K C) (HI : HasInt P w K mg base) (gR : mg "Ratio" = some (.ref C)) (F : DefAt K "is_ratio" "is_ratio" sIsRatio f fd) : FnOk P w K mg base CX0 2 f fd ["value"] (spIsRatio C) := by
  obtain ⟨fi, fdi, mI, kI, bI, GI⟩ := HI.h
  refine okN F scIsR (fun vs H Q E ⟨v, s, e, _⟩ => by rw [e]; rfl) (fun cdv A outer s H vs Q E hr ⟨v, n, e, h, q⟩ => ?_)
  subst e
  refine ⟨_, pss_one (ps_ret (pe_or (pe_callB call_isi (by rfl) G.isi (by decide +kernel) (pa_cons (pv 0) (pa_cons (pe_glob (v := .ref C) rfl gR rfl) pa_nil)))
    (pe_one (pe_call GI hr rfl mI kI bI .nil pass0 (pa_cons (pv 0) pa_nil))))), ?_⟩
  rcases h with ⟨a, rfl, dx, ha⟩ | ⟨n, rfl, rfl⟩
  · exact ⟨_, rfl, _, _, _, _, _, rfl, .own C, .base (R.ty ha), R.me, true, rfl, iteT q⟩
  · exact ⟨_, rfl, _, _, _, _, _, rfl, .own C, .base (.int n), R.int, false, rfl, iteF ⟨_, rfl, _, rfl, .inr ⟨n, rfl, q⟩⟩⟩
theorem scOf : FnScope ["value"] ["value"] (defScope sROf) := ⟨rfl, rfl, rfl, by decide +kernel, rfl, by decide +kernel, by decide +kernel⟩
theorem ok_of (HR : HasRight P w K mg base C) (HQ : HasIsR P w K mg base C) (F : DefAt K "of" "Ratio.of" sROf f fd) : FnOk P w K mg base CX0 5 f fd ["value"] (spRight C) := by
  obtain ⟨fr, fdr, mR, kR, bR, GR⟩ := HR.h
  obtain ⟨fq, fdq, mQ, kQ, bQ, GQ⟩ := HQ.h
  refine okN F scOf (fun vs H Q E ⟨v, s, e, _⟩ => by rw [e]; rfl) (fun cdv A outer s H vs Q E hr ⟨v, n, e, h, sm, q⟩ => ?_)
  subst e
  refine ⟨_, pss_cons (ps_if (pt_not (pt_val (pe_call GQ (hr.mono (by decide)) rfl mQ kQ bQ .nil pass0 (pa_cons (pv 0) pa_nil)))) pss_dead pss_nil)
    (pss_one (ps_ret (pe_call GR hr rfl mR kR bR .nil pass0 (pa_cons (pv 0) pa_nil)))), ?_⟩
  exact ⟨_, rfl, v, n, rfl, h, true, rfl, iteF ⟨_, rfl, v, n, rfl, h, sm, q⟩⟩
/-- Ratio.of, x.sign -/
structure RatM (P : Program) (w : World) (K : PySem.W.Frag) (mg : Str → Option Value) (base : Heap) (C : Addr) : Prop where
  g : mg "Ratio" = some (.ref C)
  r : ClX.CRead K C (.type "type")
  of : ∃ f fd, SMet K C "of" f ∧ Binds K fd ["value"] [] ∧ FnOk P w K mg base CX0 5 f fd ["value"] (spRight C)
  sign : ∃ p f fd, PropOf K C "sign" p f ∧ Binds K fd ["self"] [] ∧ FnOk P w K mg base CX0 1 f fd ["self"] (spSign C)
theorem scAmount : FnScope ["value"] ["value"] (defScope sIsAmount) := ⟨rfl, rfl, rfl, by decide +kernel, rfl, by decide +kernel, by decide +kernel⟩
theorem ok_amount (R : RatF K C) (HQ : HasIsR P w K mg base C) (RM : RatM P w K mg base C) (F : DefAt K "is_amount" "is_amount" sIsAmount f fd) : FnOk P w K mg base CX0 6 f fd ["value"] (spAmount C) := by
  obtain ⟨fq, fdq, mQ, kQ, bQ, GQ⟩ := HQ.h
  obtain ⟨fo, fdo, MO, bO, GO⟩ := RM.of
  obtain ⟨ps, fs, fds, PS_, bS, GS⟩ := RM.sign
  refine okN F scAmount (fun vs H Q E ⟨v, s, e, _⟩ => by rw [e]; rfl) (fun cdv A outer s H vs Q E hr ⟨v, n, e, h, sm, n0, q⟩ => ?_)
  subst e
  refine ⟨_, pss_one (ps_ret (pe_and (pe_call GQ (hr.mono (by decide)) rfl mQ kQ bQ .nil pass0 (pa_cons (pv 0) pa_nil))
    (pe_one (pe_cmpR op_ge (pe_prop (pe_smeth (pe_glob (v := .ref C) rfl RM.g rfl) RM.r MO GO hr bO pass0 (pa_cons (pv 0) pa_nil)) R.cl PS_ GS (hr.mono (by decide)) bS .nil pass0 rfl) pe_int (nomark _))))), ?_⟩
  refine ⟨_, rfl, v, n, rfl, h, true, rfl, iteT ?_⟩
  refine ⟨rfl, _, rfl, v, n, rfl, h, sm, fun p H' s' hp => ?_⟩
  obtain ⟨dx, h1⟩ := id hp
  refine ⟨p, dx, _, rfl, h1, p, n, rfl, hp, _, _, rfl, rfl, ?_⟩
  show Q (.bl (decide ((0 : Int) ≤ if n = 0 then 0 else if n > 0 then 1 else -1))) H'
  rw [decide_eq_true (show (0 : Int) ≤ if n = 0 then 0 else if n > 0 then 1 else -1 by split <;> (try split) <;> omega)]
  exact q H' s'
end
end K5

/-! k05: is_name, are_names, check_none_twice of texts, _are_ratios, added. -/
namespace K5
open PySem PySem.Spec PyProof.Rows L2 LamX K1 K18

/-! two lists, item by item -/
def All2 {α β : Type} (R : α → β → Prop) (xs : List α) (ys : List β) : Prop := xs.length = ys.length ∧ ∀ (i : Nat) (x : α) (y : β), xs[i]? = some x → ys[i]? = some y → R x y
section
variable {α β : Type} {R R' : α → β → Prop} {xs : List α} {ys : List β}
theorem All2.nil : All2 R [] [] := ⟨rfl, fun i x y e => by simp at e⟩
theorem All2.mono (h : All2 R xs ys) (k : ∀ x y, R x y → R' x y) : All2 R' xs ys := ⟨h.1, fun i x y a b => k x y (h.2 i x y a b)⟩
theorem All2.snoc {x : α} {y : β} (h : All2 R xs ys) (r : R x y) : All2 R (xs ++ [x]) (ys ++ [y]) := by
  refine ⟨by simp [h.1], fun i a b ea eb => ?_⟩
  by_cases hi : i < xs.length
  · rw [List.getElem?_append_left hi] at ea
    rw [List.getElem?_append_left (by rw [← h.1]; exact hi)] at eb
    exact h.2 i a b ea eb
  · rw [List.getElem?_append_right (by omega)] at ea
    rw [List.getElem?_append_right (by rw [← h.1]; omega), ← h.1] at eb
    cases q : i - xs.length with
    | zero =>
      rw [q] at ea eb
      cases ea; cases eb
      exact r
    | succ n => rw [q] at ea; simp at ea
theorem All2.get (h : All2 R xs ys) {i : Nat} {x : α} (e : xs[i]? = some x) : ∃ y, ys[i]? = some y ∧ R x y := by
  have hi := (List.getElem?_eq_some_iff.mp e).1
  have hj : i < ys.length := by rw [← h.1]; exact hi
  exact ⟨ys[i], List.getElem?_eq_getElem hj, h.2 i x _ e (List.getElem?_eq_getElem hj)⟩
theorem All2.getR (h : All2 R xs ys) {i : Nat} {y : β} (e : ys[i]? = some y) : ∃ x, xs[i]? = some x ∧ R x y := by
  have hi := (List.getElem?_eq_some_iff.mp e).1
  have hj : i < xs.length := by rw [h.1]; exact hi
  exact ⟨xs[i], List.getElem?_eq_getElem hj, h.2 i _ y (List.getElem?_eq_getElem hj) e⟩
theorem All2.app {xs' : List α} {ys' : List β} (h : All2 R xs ys) (h' : All2 R xs' ys') : All2 R (xs ++ xs') (ys ++ ys') := by
  refine ⟨by simp [h.1, h'.1], fun i a b ea eb => ?_⟩
  by_cases hi : i < xs.length
  · rw [List.getElem?_append_left hi] at ea
    rw [List.getElem?_append_left (by rw [← h.1]; exact hi)] at eb
    exact h.2 i a b ea eb
  · rw [List.getElem?_append_right (by omega)] at ea
    rw [List.getElem?_append_right (by rw [← h.1]; omega), ← h.1] at eb
    exact h'.2 _ a b ea eb
end
theorem take_more {α : Type} {l : List α} {i : Nat} {x : α} (h : l[i]? = some x) : l.take (i + 1) = l.take i ++ [x] := by
  obtain ⟨hi, e⟩ := List.getElem?_eq_some_iff.mp h
  rw [List.take_succ_eq_append_getElem hi, e]
theorem map_at {α β : Type} {f : α → β} {l : List α} {i : Nat} {x : β} (h : (l.map f)[i]? = some x) : ∃ a, l[i]? = some a ∧ x = f a := by
  rw [List.getElem?_map] at h
  cases e : l[i]? with
  | none => rw [e] at h; cases h
  | some a => rw [e] at h; cases h; exact ⟨a, rfl, rfl⟩
theorem same_upd {H H2 : Hp} {D : Addr} {o : HO} (hD : H D = none) (s : Same H H2) : Same H (upd H2 D o) := fun a u e => by rw [upd_ne (ne_of_none e hD)]; exact s a u e

/-! ### names -/
def isL (c : Nat) : Bool := decide (97 ≤ c ∧ c ≤ 122)
def isD (c : Nat) : Bool := decide (48 ≤ c ∧ c ≤ 57)
theorem in_let (c : Nat) : decide (c ∈ (Str.ofString "abcdefghijklmnopqrstuvwxyz").cps.toList) = isL c := by
  have e : (Str.ofString "abcdefghijklmnopqrstuvwxyz").cps.toList = [97, 98, 99, 100, 101, 102, 103, 104, 105, 106, 107, 108, 109, 110, 111, 112, 113, 114, 115, 116, 117, 118, 119, 120, 121, 122] := by decide +kernel
  unfold isL
  rw [e]
  refine decide_eq_decide.mpr ?_
  simp only [List.mem_cons, List.not_mem_nil, or_false]
  omega
theorem in_dig (c : Nat) : decide (c ∈ (Str.ofString "0123456789").cps.toList) = isD c := by
  have e : (Str.ofString "0123456789").cps.toList = [48, 49, 50, 51, 52, 53, 54, 55, 56, 57] := by decide +kernel
  unfold isD
  rw [e]
  refine decide_eq_decide.mpr ?_
  simp only [List.mem_cons, List.not_mem_nil, or_false]
  omega
/-- a name -/
structure Nm (x : Str) : Prop where
  l1 : 1 ≤ x.length
  l2 : x.length ≤ 12
  hd : ∃ c, x.cps.toList[0]? = some c ∧ isL c = true
  al : ∀ c ∈ x.cps.toList, isL c = true ∨ isD c = true
structure Consts (mg : Str → Option Value) : Prop where
  dig : ∃ u, mg "DIGITS" = some u ∧ RelV (.str (Str.ofString "0123456789")) u
  let_ : ∃ u, mg "LETTERS" = some u ∧ RelV (.str (Str.ofString "abcdefghijklmnopqrstuvwxyz")) u
  s12 : ∃ u, mg "MOST_SIGNS" = some u ∧ RelV (.int 12) u
def spName : Sp := fun vs H Q _ => ∃ x, vs = [.str x] ∧ Nm x ∧ ∀ H', Same H H' → Q (.bl true) H'
def spNames : Sp := fun vs H Q _ => ∃ (a : Addr) (ns : List Str), vs = [.ref a] ∧ SqA H a (ns.map V.str) ∧ (∀ n ∈ ns, Nm n) ∧ ns.length ≤ 1000 ∧ ∀ H', Same H H' → Q (.bl true) H'
def spTwiceS : Sp := fun vs H Q _ => ∃ (a : Addr) (ns : List Str), vs = [.ref a] ∧ SqA H a (ns.map V.str) ∧ ns.length ≤ 1000 ∧ ns.Nodup ∧ ∀ H', Same H H' → Q .non H'
/-- a list of Ratios -/
structure SixL (C : Addr) (H : Hp) (a : Addr) (ss : List Int) : Prop where
  ex : ∃ as, H a = some (.lst (as.map V.ref)) ∧ All2 (Six C H) as ss
theorem SixL.same {C : Addr} {H H' : Hp} {a : Addr} {ss : List Int} (e : Same H H') (h : SixL C H a ss) : SixL C H' a ss := let ⟨as, x, y⟩ := h; ⟨as, e _ _ x, y.mono fun _ _ z => z.same e⟩
def spAre (C : Addr) : Sp := fun vs H Q _ => ∃ a ss, vs = [.ref a] ∧ SixL C H a ss ∧ ss.length ≤ 1000 ∧ ∀ H', Same H H' → Q (.bl true) H'
/-- few, none too great -/
structure Few (ss : List Int) : Prop where
  len : ss.length ≤ 100
  sm : ∀ s ∈ ss, s.natAbs < 2 ^ 50
def spAdded (C : Addr) : Sp := fun vs H Q _ => ∃ a ss, vs = [.ref a] ∧ SixL C H a ss ∧ Few ss ∧ ∀ p H', Same H H' → H p = none → Six C H' p ss.sum → Q (.ref p) H'
theorem few_sum {ss : List Int} (h : Few ss) (i : Nat) : Sm (ss.take i).sum := by
  have key : ∀ l : List Int, (∀ s ∈ l, s.natAbs < 2 ^ 50) → l.sum.natAbs ≤ l.length * 2 ^ 50 := by
    intro l
    induction l with
    | nil => intro _; simp
    | cons a r ih =>
      intro k
      have h1 := ih fun s hs => k s (List.mem_cons_of_mem _ hs)
      have h2 := k a (List.mem_cons_self ..)
      rw [List.sum_cons, List.length_cons]
      omega
  have z := key (ss.take i) fun s hs => h.sm s (List.mem_of_mem_take hs)
  have l : (ss.take i).length ≤ 100 := by rw [List.length_take]; have := h.len; omega
  show (ss.take i).sum.natAbs < 2 ^ 60
  omega
abbrev HasName (P : Program) (w : World) (K : PySem.W.Frag) (mg : Str → Option Value) (base : Heap) : Prop := Has P w K mg base CX0 1 "is_name" ["value"] spName
abbrev HasNames (P : Program) (w : World) (K : PySem.W.Frag) (mg : Str → Option Value) (base : Heap) : Prop := Has P w K mg base CX0 2 "are_names" ["value"] spNames
abbrev HasTwiceS (P : Program) (w : World) (K : PySem.W.Frag) (mg : Str → Option Value) (base : Heap) : Prop := Has P w K mg base CX0 1 "check_none_twice" ["items"] spTwiceS
abbrev HasAre (P : Program) (w : World) (K : PySem.W.Frag) (mg : Str → Option Value) (base : Heap) (C : Addr) : Prop := Has P w K mg base CX0 3 "_are_ratios" ["value"] (spAre C)
abbrev HasAdded (P : Program) (w : World) (K : PySem.W.Frag) (mg : Str → Option Value) (base : Heap) (C : Addr) : Prop := Has P w K mg base CX0 6 "added" ["ratios"] (spAdded C)
theorem all_true (n : Nat) : (List.replicate n true).all id = true := by induction n <;> simp_all [List.replicate]
theorem rep_snoc (n : Nat) (D : Addr) (H : Hp) : upd H D (.lst (List.replicate n (V.bl true) ++ [V.bl true])) = upd H D (.lst (List.replicate (n + 1) (V.bl true))) := by rw [List.replicate_succ']
section
variable {P : Program} {w : World} {K : PySem.W.Frag} {mg : Str → Option Value} {base : Heap} {f C : Addr} {fd : FuncData}
theorem scName : FnScope ["value", "sign"] ["value"] (defScope sName) := ⟨rfl, rfl, rfl, by decide +kernel, rfl, by decide +kernel, by decide +kernel⟩
theorem ok_name (G : Glob mg) (CO : Consts mg) (F : DefAt K "is_name" "is_name" sName f fd) : FnOk P w K mg base CX0 1 f fd ["value"] spName := by
  obtain ⟨ud, gd, rd⟩ := CO.dig
  obtain ⟨ul, gl, rl⟩ := CO.let_
  obtain ⟨u6, g6, r6⟩ := CO.s12
  refine okN F scName (fun vs H Q E ⟨v, e, _⟩ => by rw [e]; rfl) (fun cdv A outer s H vs Q E hr ⟨x, e, n, q⟩ => ?_)
  subst e
  refine ⟨_, pss_cons (ps_if (PW.pt (pw_or (pt_not (pt_val (pe_callB call_isi (by rfl) G.isi (by decide +kernel) (pa_cons (pv 0) (pa_cons (pe_bltn (by rfl) G.str (by decide +kernel) (v := .ty "str") rfl) pa_nil)))))
      (pw_or1 (pt_not (pt_chain op_le op_le pe_int (pe_callB call_len_str (by rfl) G.len PySem.boot_len (pa_cons (pv 0) pa_nil)) (pe_glob (v := .int 12) rfl g6 r6)))))) pss_dead pss_nil)
    (pss_one (ps_ret (pe_and (pe_cmpR op_in_sign (pe_ix ix_str (pv 0) pe_int (fun _ _ => rfl)) (pe_glob (v := .str (Str.ofString "abcdefghijklmnopqrstuvwxyz")) rfl gl rl) rfl)
      (pe_one (pe_callB (cr_all rfl) (by rfl) G.all (by decide +kernel) (pa_cons
          (pe_lc (own := [("sign", 1)]) (g := gName 1) (tt := tYes) rfl scName.nd (pi_str (pv 0)) (blkOk_by (N := ["value", "sign"]) (sc := defScope sName) (by decide +kernel))
            (fun _ _ _ _ _ => pg_name (i := 1) scName.nd rfl (Or.inl rfl)) (fun _ _ _ _ _ => pts_nil) (fun _ _ _ _ _ => pe_or (pe_cmpR op_in_sign (pv 1) (pe_glob (v := .str (Str.ofString "abcdefghijklmnopqrstuvwxyz")) rfl gl rl) rfl) (pe_one (pe_cmpR op_in_sign (pv 1) (pe_glob (v := .str (Str.ofString "0123456789")) rfl gd rd) rfl)))) pa_nil)))))), ?_⟩
  have sz : sizeLine = 16777216 := sizeLine_eq
  have l1 := n.l1
  have l2 := n.l2
  refine ⟨_, rfl, _, _, _, _, _, rfl, .ty "str", .base (.str x), kit_ty (a := "str") (b := "str") (r := true) (by decide +kernel), true, rfl, iteF ?_⟩
  refine ⟨_, rfl, _, rfl, (by omega), _, _, rfl, rfl, true, congrArg V.bl (decide_eq_true (show (1 : Int) ≤ (x.length : Int) by omega)), iteT ⟨_, _, rfl, rfl, true, congrArg V.bl (decide_eq_true (show (x.length : Int) ≤ 12 by omega)), iteF ?_⟩⟩
  obtain ⟨c, hc, lc⟩ := n.hd
  refine ⟨_, rfl, _, 0, c, rfl, rfl, (by omega), atI_nat (j := 0) hc, c, _, rfl, rfl, true, congrArg V.bl (by rw [in_let, lc]), iteT ?_⟩
  refine ⟨_, rfl, _, rfl, fun D hD => ?_⟩
  refine lc_it walk_str (fun i H2 => Same H H2 ∧ H2 D = some (.lst (List.replicate i (V.bl true)))) ⟨upd_new hD, upd_same⟩ (fun _ _ _ _ => trivial) ?_ ?_
  · rintro i y H2 H3 hi ⟨s2, h2⟩ ⟨rfl, d, hd, rfl⟩
    have md : d ∈ x.cps.toList := List.mem_of_getElem? (i := i) (by simpa using hd)
    have li : i < x.length := hi
    have fin : ∃ acc, H3 D = some (.lst acc) ∧ acc.length < sizeLine ∧ (Same H (upd H3 D (.lst (acc ++ [V.bl true]))) ∧ upd H3 D (.lst (acc ++ [V.bl true])) D = some (.lst (List.replicate (i + 1) (V.bl true)))) :=
      ⟨_, h2, by rw [List.length_replicate]; omega, same_upd hD s2, by rw [rep_snoc, upd_same]⟩
    refine ⟨rfl, yes_of ⟨_, rfl, d, _, rfl, rfl, isL d, congrArg V.bl (in_let d), ?_⟩⟩
    cases e : isL d with
    | true => exact iteT fin
    | false =>
      refine iteF ⟨_, rfl, d, _, rfl, rfl, ?_⟩
      rw [in_dig, (n.al d md).resolve_left (by rw [e]; exact Bool.false_ne_true)]
      exact fin
  · rintro H2 ⟨s2, h2⟩
    refine ⟨D, List.replicate _ true, rfl, SqL.of (by rw [h2, List.map_replicate]), ?_⟩
    rw [all_true]
    exact q H2 s2
theorem scNames : FnScope ["value", "item"] ["value"] (defScope sAreNames) := ⟨rfl, rfl, rfl, by decide +kernel, rfl, by decide +kernel, by decide +kernel⟩
theorem ok_names (G : Glob mg) (HN : HasName P w K mg base) (HL : HasListed P w K mg base) (F : DefAt K "are_names" "are_names" sAreNames f fd) : FnOk P w K mg base CX0 2 f fd ["value"] spNames := by
  obtain ⟨fi, fdi, mI, kI, bI, GI⟩ := HN.h
  obtain ⟨fl, fdl, mL, kL, bL, GL⟩ := HL.h
  refine okN F scNames (fun vs H Q E ⟨a, ns, e, _⟩ => by rw [e]; rfl) (fun cdv A outer s H vs Q E hr ⟨a, ns, e, sq, al, hl, q⟩ => ?_)
  subst e
  refine ⟨_, pss_one (ps_ret (pe_and (pe_call GL hr rfl mL kL bL .nil pass0 (pa_cons (pv 0) pa_nil))
        (pe_one (pe_callB (cr_all rfl) (by rfl) G.all (by decide +kernel) (pa_cons
          (pe_lc (own := [("item", 1)]) (g := gName 1) (tt := tYes) rfl scNames.nd (pi_seq (pv 0)) (blkOk_by (N := ["value", "item"]) (sc := defScope sAreNames) (by decide +kernel))
            (fun _ _ _ _ _ => pg_name (i := 1) scNames.nd rfl (Or.inl rfl)) (fun _ _ _ _ _ => pts_nil) (fun _ _ _ _ _ => pe_call GI hr rfl mI kI bI .nil pass0 (pa_cons (pv 1) pa_nil))) pa_nil))))), ?_⟩
  have sz : sizeLine = 16777216 := sizeLine_eq
  refine ⟨_, rfl, _, rfl, .inr ⟨a, _, rfl, sq, fun H1 s1 => ⟨true, rfl, iteT ?_⟩⟩⟩
  refine ⟨_, rfl, a, rfl, ?_⟩
  refine lc_seqA (sq.same s1) fun D hD => ⟨fun i H2 => Same H1 H2 ∧ H2 D = some (.lst (List.replicate i (V.bl true))), ⟨upd_new hD, upd_same⟩, fun i H2 _ z => ?_, ?_, ?_⟩
  · obtain ⟨o, e⟩ := (sq.same s1).there
    rw [e, z.1 _ _ e]
  · rintro i x H2 hx ⟨s2, h2⟩
    obtain ⟨n, hn, rfl⟩ := map_at hx
    have li := (List.getElem?_eq_some_iff.mp hn).1
    refine ⟨rfl, yes_of ⟨_, rfl, n, rfl, al n (List.mem_of_getElem? hn), fun H3 s3 => ?_⟩⟩
    exact ⟨_, s3 _ _ h2, by rw [List.length_replicate]; omega, same_upd hD (s2.trans s3), by rw [rep_snoc, upd_same]⟩
  · rintro H2 ⟨s2, h2⟩
    refine ⟨D, List.replicate _ true, rfl, SqL.of (by rw [h2, List.map_replicate]), ?_⟩
    rw [all_true]
    exact q H2 (s1.trans s2)
theorem ok_twiceS (F : DefAt K "check_none_twice" "check_none_twice" sNoneTwice f fd) : FnOk P w K mg base CX0 1 f fd ["items"] spTwiceS := by
  refine okN F scTwice (fun vs H Q E ⟨a, ns, e, _⟩ => by rw [e]; rfl) (fun cdv A outer s H vs Q E hr ⟨a, ns, e, sq, hl, nd, q⟩ => ?_)
  subst e
  have hu := hu_of hr
  refine ⟨_, pss_cons (ps_set (i := 1) scTwice.nd rfl (Or.inl rfl) pe_dnewK) (pss_one (ps_for PassesOwn.never rfl (pi_seq (pv 0)) (pg_name (i := 2) scTwice.nd rfl (Or.inl rfl))
    (pss_cons (ps_if (pt_cmp (pc_din hu (pv 2) (pv 1))) pss_dead pss_nil)
    (pss_one (ps_dput hu (pv 1) (pv 2) pe_bl rfl))))), ?_⟩
  have sz : sizeLine = 16777216 := sizeLine_eq
  intro M hM
  have sM := upd_new (o := .dK []) hM
  have aM : a ≠ M := sq.ne hM
  refine ⟨_, rfl, a, rfl, ?_⟩
  refine for_seqA (sq.same sM) (fun i σ H2 => ∃ (kvs : List (Key × V)) (z : Option V), σ = [some (.ref a), some (.ref M), z] ∧ H2 = upd H M (.dK kvs) ∧ kvs.length ≤ i ∧ ∀ n : Str, valV kvs (Sum.inr n) = if n ∈ ns.take i then some (.bl true) else none)
    ⟨[], none, rfl, rfl, Nat.zero_le _, fun n => by simp [valV_nil]⟩ ?_ ?_ ?_
  · rintro i σ' H' _ ⟨kvs, z, _, rfl, _⟩
    rw [upd_ne aM, upd_ne aM]
  · rintro i x σ H2 hx ⟨kvs, z, rfl, rfl, lk, val⟩
    obtain ⟨n, hn, rfl⟩ := map_at hx
    have hi := (List.getElem?_eq_some_iff.mp hn).1
    refine ⟨_, rfl, _, rfl, M, _, rfl, DGet.k (k := Sum.inr n) upd_same, _, rfl, ?_⟩
    have hm : n ∉ ns.take i := fun m => by
      have z : (ns.take (i + 1)).Nodup := nd.sublist (List.take_sublist _ _)
      rw [take_more hn] at z
      exact (List.nodup_append.mp z).2.2 n m n (by simp) rfl
    rw [val n, if_neg hm]
    refine iteF ⟨_, rfl, _, rfl, M, _, rfl, DPut.k (k := Sum.inr n) upd_same (by omega), ?_⟩
    refine ⟨putK kvs (Sum.inr n) (.bl true), _, rfl, by rw [upd_upd], Nat.le_trans putK_len (by omega), fun j => ?_⟩
    rw [valV_put, val j, take_more hn]
    by_cases e : j = n
    · subst e; simp
    · simp [e]
  · rintro σ H2 ⟨kvs, z, rfl, rfl, lk, val⟩
    exact q _ (upd_new hM)
theorem scAre : FnScope ["value", "item"] ["value"] (defScope sAreRatios) := ⟨rfl, rfl, rfl, by decide +kernel, rfl, by decide +kernel, by decide +kernel⟩
theorem ok_are (G : Glob mg) (HL : HasListed P w K mg base) (HQ : HasIsR P w K mg base C) (F : DefAt K "_are_ratios" "_are_ratios" sAreRatios f fd) : FnOk P w K mg base CX0 3 f fd ["value"] (spAre C) := by
  obtain ⟨fq, fdq, mQ, kQ, bQ, GQ⟩ := HQ.h
  obtain ⟨fl, fdl, mL, kL, bL, GL⟩ := HL.h
  refine okN F scAre (fun vs H Q E ⟨a, ss, e, _⟩ => by rw [e]; rfl) (fun cdv A outer s H vs Q E hr ⟨a, ss, e, ⟨as, ha, al⟩, hl, q⟩ => ?_)
  subst e
  refine ⟨_, pss_one (ps_ret (pe_and (pe_call GL (hr.mono (by decide)) rfl mL kL bL .nil pass0 (pa_cons (pv 0) pa_nil))
        (pe_one (pe_callB (cr_all rfl) (by rfl) G.all (by decide +kernel) (pa_cons
          (pe_lc (own := [("item", 1)]) (g := gName 1) (tt := tYes) rfl scAre.nd (pi_seq (pv 0)) (blkOk_by (N := ["value", "item"]) (sc := defScope sAreRatios) (by decide +kernel))
            (fun _ _ _ _ _ => pg_name (i := 1) scAre.nd rfl (Or.inl rfl)) (fun _ _ _ _ _ => pts_nil) (fun _ _ _ _ _ => pe_call GQ hr rfl mQ kQ bQ .nil pass0 (pa_cons (pv 1) pa_nil))) pa_nil))))), ?_⟩
  have sz : sizeLine = 16777216 := sizeLine_eq
  have sq : SqA H a (as.map V.ref) := .inl ha
  refine ⟨_, rfl, _, rfl, .inr ⟨a, _, rfl, sq, fun H1 s1 => ⟨true, rfl, iteT ?_⟩⟩⟩
  refine ⟨_, rfl, a, rfl, ?_⟩
  refine lc_seqA (sq.same s1) fun D hD => ⟨fun i H2 => Same H1 H2 ∧ H2 D = some (.lst (List.replicate i (V.bl true))), ⟨upd_new hD, upd_same⟩, fun i H2 _ z => ?_, ?_, ?_⟩
  · obtain ⟨o, e⟩ := (sq.same s1).there
    rw [e, z.1 _ _ e]
  · rintro i x H2 hx ⟨s2, h2⟩
    obtain ⟨p, hp, rfl⟩ := map_at hx
    obtain ⟨n, hn, r⟩ := al.get hp
    have li := (List.getElem?_eq_some_iff.mp hn).1
    refine ⟨rfl, yes_of ⟨_, rfl, _, n, rfl, .inl ⟨p, rfl, r.same (s1.trans s2)⟩, ?_⟩⟩
    exact ⟨_, h2, by rw [List.length_replicate]; omega, same_upd hD s2, by rw [rep_snoc, upd_same]⟩
  · rintro H2 ⟨s2, h2⟩
    refine ⟨D, List.replicate _ true, rfl, SqL.of (by rw [h2, List.map_replicate]), ?_⟩
    rw [all_true]
    exact q H2 (s1.trans s2)
theorem seq_asg {te : TE} {g : TG} {T : TS} {D : Ends} {σ : L2.St} {H : Hp} (h : te σ H fun v H1 => g v σ H1 (T D)) : tSeq (tAsg te g) T D σ H := h
theorem mk_int {C : Addr} {σ : L2.St} {H : Hp} {n : Int} {Q : VK} {E : XK} (hn : n.natAbs < 2 ^ 100) (q : NewS C H (6 * n) Q) : tMake C (spRI C) [V.int 1] E (tCons (tC (V.int n)) tNil) σ H Q := mk_one hn q
/-- an own operator of a class -/
structure Own (P : Program) (w : World) (K : PySem.W.Frag) (mg : Str → Option Value) (base : Heap) (C : Addr) (CX : CXT) (k : Nat) (nm : Str) (ps : List Str) (sp : Sp) : Prop where
  h : ∃ f fd, OwnM K C nm f ∧ Binds K fd ps [] ∧ FnOk P w K mg base CX k f fd ps sp
/-- + of the class, with itself at the right -/
structure AddO (P : Program) (w : World) (K : PySem.W.Frag) (mg : Str → Option Value) (base : Heap) (C : Addr) (CX : CXT) (k : Nat) (sp : Sp) : Prop where
  o : Own P w K mg base C CX k "__add__" ["self", "other"] sp
  sf : PySem.W.selfFirst K C = true
  nr : PySem.W.findIn K (.ref C) (dunderR Operator.Add.info.2) = some none
theorem scAdded : FnScope ["ratios", "total", "ratio"] ["ratios"] (defScope sAdded) := ⟨rfl, rfl, rfl, by decide +kernel, rfl, by decide +kernel, by decide +kernel⟩
theorem ok_added (R : RatF K C) (HA : HasAre P w K mg base C) (MR : MkR P w K mg base C) (OA : AddO P w K mg base C CX0 5 (spSum C)) (F : DefAt K "added" "added" sAdded f fd) : FnOk P w K mg base CX0 6 f fd ["ratios"] (spAdded C) := by
  obtain ⟨fa, fda, mA, kA, bA, GA⟩ := HA.h
  obtain ⟨fm, fdm, ds, M, GM, _, hv, bM⟩ := MR.m
  obtain ⟨fo, fdo, MO, bO, GO⟩ := OA.o.h
  refine okN F scAdded (fun vs H Q E ⟨a, ss, e, _⟩ => by rw [e]; rfl) (fun cdv A outer s H vs Q E hr ⟨a, ss, e, sl, fw, q⟩ => ?_)
  subst e
  refine ⟨_, pss_cons (ps_if (pt_not (pt_val (pe_call GA (hr.mono (by decide)) rfl mA kA bA .nil pass0 (pa_cons (pv 0) pa_nil)))) pss_dead pss_nil)
    (pss_cons (ps_set (i := 1) scAdded.nd rfl (Or.inl rfl) (pe_make M GM (hr.mono (by decide)) rfl MR.g bM hv pass0 (pa_cons pe_int pa_nil)))
    (pss_cons (ps_for PassesOwn.never rfl (pi_seq (pv 0)) (pg_name (i := 2) scAdded.nd rfl (Or.inl rfl)) (pss_one (ps_set (i := 1) scAdded.nd rfl (Or.inl rfl) (pe_op (op_own (op := .Add) MO OA.sf OA.nr GO hr bO pass0) (pv 1) (pv 2)))))
    (pss_one (ps_ret (pv 1))))), ?_⟩
  have l := fw.len
  refine ⟨_, rfl, a, ss, rfl, sl, by omega, fun H1 s1 => ⟨true, rfl, iteF ?_⟩⟩
  dsimp only [tNext]
  refine seq_asg ?_
  refine mk_int (by decide) fun p H2 s2 np hp => ?_
  have s02 := s1.trans s2
  obtain ⟨as, ha, al⟩ := sl.same s02
  refine ⟨_, rfl, a, rfl, ?_⟩
  refine for_seqA (.inl ha) (fun i σ H3 => ∃ p' v', σ = [some (.ref a), some (.ref p'), v'] ∧ Same H2 H3 ∧ H p' = none ∧ Six C H3 p' (ss.take i).sum) ⟨p, none, rfl, Same.refl _, s1.free np, hp⟩ (fun i σ H3 _ z => by obtain ⟨_, _, _, s3, _⟩ := z; rw [s3 _ _ ha, ha]) ?_ ?_
  · rintro i x σ H3 hx ⟨p', v', rfl, s3, np', i1⟩
    obtain ⟨b, hb, rfl⟩ := map_at hx
    obtain ⟨n, hn, r⟩ := al.get hb
    obtain ⟨dy, at1⟩ := id i1
    have sn := fw.sm n (List.mem_of_getElem? hn)
    obtain ⟨dz, at2⟩ := r.same s3
    refine ⟨_, rfl, _, rfl, p', dy, _, rfl, at1, .inl ⟨b, dz, _, rfl, at2⟩, p', .ref b, _, n, rfl, i1, .inl ⟨b, rfl, r.same s3⟩, few_sum fw i, by show n.natAbs < 2 ^ 60; omega, fun p2 H4 s4 np2 hp2 => ?_⟩
    refine ⟨p2, some (.ref b), rfl, s3.trans s4, (s02.trans s3).free np2, ?_⟩
    rw [take_more hn, List.sum_append, List.sum_singleton]
    exact hp2
  · rintro σ H3 ⟨p', v', rfl, s3, np', i1⟩
    rw [List.length_map, al.1, List.take_length] at i1
    exact ⟨_, rfl, q p' H3 (s02.trans s3) np' i1⟩
end
end K5

/-! k05: hand-overs as objects. -/
namespace K5
open PySem PySem.Spec PyProof.Rows L2 LamX K1 K18

/-- all but what stands at p stays -/
def Keep (p : Addr) (H H' : Hp) : Prop := ∀ c o, c ≠ p → H c = some o → H' c = some o
theorem Keep.refl (p : Addr) (H : Hp) : Keep p H H := fun _ _ _ e => e
theorem Keep.trans {p : Addr} {H H1 H2 : Hp} (a : Keep p H H1) (b : Keep p H1 H2) : Keep p H H2 := fun c o n e => b c o n (a c o n e)
theorem Same.keep {p : Addr} {H H' : Hp} (s : Same H H') : Keep p H H' := fun c o _ e => s c o e
theorem Keep.upd {p : Addr} {H : Hp} {o : HO} : Keep p H (upd H p o) := fun c u n e => by rw [upd_ne n]; exact e
theorem fsR_ne (t b : Int) : fsR t b ≠ [] := fun z => by have := fsR_top t b; rw [z] at this; cases this
theorem Six.ne {C CH : Addr} {H : Hp} {a x dx : Addr} {s : Int} (h : Six C H a s) (hx : H x = some (.ins CH dx [])) : a ≠ x := by
  rintro rfl
  obtain ⟨dy, h⟩ := h
  rw [hx] at h
  injection h with h
  injection h with _ _ h
  exact fsR_ne _ _ h.symm
theorem SixV.keep {C CH : Addr} {H H' : Hp} {v : V} {x dx : Addr} {s : Int} (h : SixV C H v s) (hx : H x = some (.ins CH dx [])) (k : Keep x H H') : SixV C H' v s := by
  rcases h with ⟨a, e, r⟩ | h
  · have n := r.ne hx
    obtain ⟨dy, r⟩ := r
    exact .inl ⟨a, e, dy, k _ _ n r⟩
  · exact .inr h
/-- one hand-over, its worths in sixths -/
structure Hnd where
  g : Str
  t : Str
  c : Int
  d : Int
  deriving DecidableEq
structure HnOk (h : Hnd) : Prop where
  ng : Nm h.g
  nt : Nm h.t
  ne : h.g ≠ h.t
  c0 : 0 ≤ h.c
  d0 : 0 ≤ h.d
  cs : h.c.natAbs < 2 ^ 50
  ds : h.d.natAbs < 2 ^ 50
def Hnd.back (h : Hnd) : Hnd := ⟨h.t, h.g, h.d, h.c⟩
theorem HnOk.back {h : Hnd} (k : HnOk h) : HnOk h.back := ⟨k.nt, k.ng, Ne.symm k.ne, k.d0, k.c0, k.ds, k.cs⟩
def Hnd.eff (h : Hnd) (n : Str) : Int := if n = h.g then -h.c else if n = h.t then h.d else 0
theorem eff_sm {h : Hnd} (k : HnOk h) (n : Str) : (h.eff n).natAbs < 2 ^ 50 := by
  unfold Hnd.eff
  have := k.cs
  have := k.ds
  split
  · omega
  · split <;> omega
/-! its attributes -/
theorem n_tg : ¬ (("taker" : Str) = "giver") := by decide +kernel
theorem n_cg : ¬ (("cost" : Str) = "giver") := by decide +kernel
theorem n_ct : ¬ (("cost" : Str) = "taker") := by decide +kernel
theorem n_gg : ¬ (("gain" : Str) = "giver") := by decide +kernel
theorem n_gt : ¬ (("gain" : Str) = "taker") := by decide +kernel
theorem n_gc : ¬ (("gain" : Str) = "cost") := by decide +kernel
def fh1 (g : Str) : List (Str × V) := putF "giver" (.str g) []
def fh2 (g t : Str) : List (Str × V) := putF "taker" (.str t) (fh1 g)
def fh3 (g t : Str) (c : Addr) : List (Str × V) := putF "cost" (.ref c) (fh2 g t)
def fsH (g t : Str) (c d : Addr) : List (Str × V) := putF "gain" (.ref d) (fh3 g t c)
section
variable (g t : Str) (c d : Addr)
theorem fh_g : (fsH g t c d).lookup ("giver" : Str) = some (.str g) := by unfold fsH fh3 fh2 fh1; rw [lookup_putF, if_neg (Ne.symm n_gg), lookup_putF, if_neg (Ne.symm n_cg), lookup_putF, if_neg (Ne.symm n_tg), lookup_putF, if_pos rfl]
theorem fh_t : (fsH g t c d).lookup ("taker" : Str) = some (.str t) := by unfold fsH fh3 fh2; rw [lookup_putF, if_neg (Ne.symm n_gt), lookup_putF, if_neg (Ne.symm n_ct), lookup_putF, if_pos rfl]
theorem fh_c : (fsH g t c d).lookup ("cost" : Str) = some (.ref c) := by unfold fsH fh3; rw [lookup_putF, if_neg (Ne.symm n_gc), lookup_putF, if_pos rfl]
theorem fh_d : (fsH g t c d).lookup ("gain" : Str) = some (.ref d) := by unfold fsH; rw [lookup_putF, if_pos rfl]
theorem fh_no {m : Str} (h1 : ¬ (m = "giver")) (h2 : ¬ (m = "taker")) (h3 : ¬ (m = "cost")) (h4 : ¬ (m = "gain")) : (fsH g t c d).lookup m = none := by
  unfold fsH fh3 fh2 fh1
  rw [lookup_putF, if_neg h4, lookup_putF, if_neg h3, lookup_putF, if_neg h2, lookup_putF, if_neg h1]
  rfl
theorem fh_len1 : (fh1 g).length < 1000 := by show 1 < 1000; decide
theorem fh_len2 : (fh2 g t).length < 1000 := by show 2 < 1000; decide
theorem fh_len3 : (fh3 g t c).length < 1000 := by show 3 < 1000; decide
end
/-- at a stands the HandOver h -/
def HandAt (C CH : Addr) (H : Hp) (a : Addr) (h : Hnd) : Prop := ∃ dx pc pd, H a = some (.ins CH dx (fsH h.g h.t pc pd)) ∧ Six C H pc h.c ∧ Six C H pd h.d
theorem HandAt.same {C CH : Addr} {H H' : Hp} {a : Addr} {h : Hnd} (s : Same H H') (k : HandAt C CH H a h) : HandAt C CH H' a h := let ⟨dx, pc, pd, x, y, z⟩ := k; ⟨dx, pc, pd, s _ _ x, y.same s, z.same s⟩
structure HandF (K : PySem.W.Frag) (C : Addr) : Prop extends ClsF K C where
  nG : NoAttr K C "giver"
  nT : NoAttr K C "taker"
  nC : NoAttr K C "cost"
  nD : NoAttr K C "gain"
def spHInit (C CH : Addr) : Sp := fun vs H Q _ => ∃ (x dx : Addr) (h : Hnd) (vc vd : V), vs = [.ref x, .str h.g, .str h.t, vc, vd] ∧ H x = some (.ins CH dx []) ∧ HnOk h ∧ SixV C H vc h.c ∧ SixV C H vd h.d ∧
  ∀ H', Keep x H H' → HandAt C CH H' x h → Q .non H'
def spRet (C CH : Addr) : Sp := fun vs H Q _ => ∃ a h, vs = [.ref a] ∧ HandAt C CH H a h ∧ HnOk h ∧ ∀ p H', Same H H' → H p = none → HandAt C CH H' p h.back → Q (.ref p) H'
def spEff (C CH : Addr) : Sp := fun vs H Q _ => ∃ a h n, vs = [.ref a, .str n] ∧ HandAt C CH H a h ∧ HnOk h ∧ ∀ p H', Same H H' → Six C H' p (h.eff n) → Q (.ref p) H'
def spHEq (C CH : Addr) : Sp := fun vs H Q _ => ∃ a b h k, vs = [.ref a, .ref b] ∧ HandAt C CH H a h ∧ HandAt C CH H b k ∧ Q (.bl (decide (h = k))) H
/-- HandOver(e, ..) -/
structure MkH (P : Program) (w : World) (K : PySem.W.Frag) (mg : Str → Option Value) (base : Heap) (C CH : Addr) : Prop where
  g : mg "HandOver" = some (.ref CH)
  m : ∃ f fd, Mk K CH f ∧ FnOk P w K mg base CX0 7 f fd ["self", "giver", "taker", "cost", "gain"] (spHInit C CH) ∧ Binds K fd ["self", "giver", "taker", "cost", "gain"] []
theorem mk_hand {C CH : Addr} {H : Hp} {h : Hnd} {vc vd : V} {Q : VK} {E : XK} (k : HnOk h) (sc : SixV C H vc h.c) (sd : SixV C H vd h.d) (q : ∀ p H', Same H H' → H p = none → HandAt C CH H' p h → Q (.ref p) H') :
    ∀ x dx, H x = none → H dx = none → dx ≠ x → spHInit C CH [.ref x, .str h.g, .str h.t, vc, vd] (upd (upd H dx (.own x)) x (.ins CH dx [])) (fun v H2 => v = .non ∧ Q (.ref x) H2) E := fun x dx hx hd ne => by
  have s1 : Same H (upd (upd H dx (.own x)) x (.ins CH dx [])) := fun o u e => by rw [upd_ne (ne_of_none e hx), upd_ne (ne_of_none e hd)]; exact e
  exact ⟨x, dx, h, vc, vd, rfl, upd_same, k, sc.same s1, sd.same s1, fun H' kp ha => ⟨rfl, q x H' (fun o u e => kp o u (ne_of_none e hx) (s1 o u e)) hx ha⟩⟩
section
variable {P : Program} {w : World} {K : PySem.W.Frag} {mg : Str → Option Value} {base : Heap} {f C CH : Addr} {fd : FuncData}
abbrev HasAmount (P : Program) (w : World) (K : PySem.W.Frag) (mg : Str → Option Value) (base : Heap) (C : Addr) : Prop := Has P w K mg base CX0 6 "is_amount" ["value"] (spAmount C)
abbrev nHI : List Str := ["self", "giver", "taker", "cost", "gain"]
theorem scHI : FnScope nHI nHI (defScope sHInit) := ⟨rfl, rfl, rfl, by decide +kernel, rfl, by decide +kernel, by decide +kernel⟩
theorem ok_hinit (R : HandF K CH) (HN : HasName P w K mg base) (HA : HasAmount P w K mg base C) (RM : RatM P w K mg base C) (F : DefAt K "__init__" "HandOver.__init__" sHInit f fd) : FnOk P w K mg base CX0 7 f fd nHI (spHInit C CH) := by
  obtain ⟨fn, fdn, mN, kN, bN, GN⟩ := HN.h
  obtain ⟨fa, fda, mA, kA, bA, GA⟩ := HA.h
  obtain ⟨fo, fdo, MO, bO, GO⟩ := RM.of
  refine okN F scHI (fun vs H Q E ⟨x, dx, h, vc, vd, e, _⟩ => by rw [e]; rfl) (fun cdv A outer s H vs Q E hr ⟨x, dx, h, vc, vd, e, hx, k, sc, sd, q⟩ => ?_)
  subst e
  have r1 := hr.mono (show 1 ≤ 6 by decide)
  have r5 := hr.mono (show 5 ≤ 6 by decide)
  refine ⟨_, pss_cons (ps_if (pt_not (pt_val (pe_call GN r1 rfl mN kN bN .nil pass0 (pa_cons (pv 1) pa_nil)))) pss_dead pss_nil)
    (pss_cons (ps_if (PW.pt (pw_or (pt_not (pt_val (pe_call GN r1 rfl mN kN bN .nil pass0 (pa_cons (pv 2) pa_nil)))) (pw_or1 (pt_cmpR op_eq (pv 2) (pv 1) (nomark _))))) pss_dead pss_nil)
    (pss_cons (ps_if (pt_not (pt_val (pe_call GA hr rfl mA kA bA .nil pass0 (pa_cons (pv 3) pa_nil)))) pss_dead pss_nil)
    (pss_cons (ps_if (pt_not (pt_val (pe_call GA hr rfl mA kA bA .nil pass0 (pa_cons (pv 4) pa_nil)))) pss_dead pss_nil)
    (pss_cons (ps_fld (pv 0) (pv 1) rfl)
    (pss_cons (ps_fld (pv 0) (pv 2) rfl)
    (pss_cons (ps_fld (pv 0) (pe_smeth (pe_glob (v := .ref C) rfl RM.g rfl) RM.r MO GO r5 bO pass0 (pa_cons (pv 3) pa_nil)) rfl)
    (pss_one (ps_fld (pv 0) (pe_smeth (pe_glob (v := .ref C) rfl RM.g rfl) RM.r MO GO r5 bO pass0 (pa_cons (pv 4) pa_nil)) rfl)))))))), ?_⟩
  refine ⟨_, rfl, _, rfl, k.ng, fun H1 s1 => ⟨true, rfl, iteF ?_⟩⟩
  refine ⟨_, rfl, _, rfl, k.nt, fun H2 s2 => ⟨true, rfl, iteF ?_⟩⟩
  refine ⟨_, rfl, _, rfl, rfl, false, by rw [decS, decide_eq_false (Ne.symm k.ne)], iteF ?_⟩
  have s02 := s1.trans s2
  refine ⟨_, rfl, _, h.c, rfl, sc.same s02, by have := k.cs; show h.c.natAbs < 2 ^ 60; omega, k.c0, fun H3 s3 => ⟨true, rfl, iteF ?_⟩⟩
  have s03 := s02.trans s3
  refine ⟨_, rfl, _, h.d, rfl, sd.same s03, by have := k.ds; show h.d.natAbs < 2 ^ 60; omega, k.d0, fun H4 s4 => ⟨true, rfl, iteF ?_⟩⟩
  have s04 := s03.trans s4
  have h4 := s04 _ _ hx
  refine ⟨_, rfl, _, rfl, x, CH, dx, [], rfl, h4, R.cl, R.nG, (by show 0 < 1000; decide), ?_⟩
  refine ⟨_, rfl, _, rfl, x, CH, dx, fh1 h.g, rfl, upd_same, R.cl, R.nT, fh_len1 _, ?_⟩
  rw [upd_upd]
  have k5 : Keep x H (upd H4 x (.ins CH dx (fh2 h.g h.t))) := fun b o n e => by rw [upd_ne n]; exact s04 _ _ e
  have x5 : upd H4 x (.ins CH dx (fh2 h.g h.t)) x = some (.ins CH dx (fh2 h.g h.t)) := upd_same
  show tSeq _ _ _ _ (upd H4 x (.ins CH dx (fh2 h.g h.t)))
  generalize upd H4 x (.ins CH dx (fh2 h.g h.t)) = H5 at k5 x5 ⊢
  have six5 := (sc.keep hx k5)
  refine ⟨rfl, _, rfl, _, h.c, rfl, six5, by have := k.cs; show h.c.natAbs < 2 ^ 60; omega, fun pc H6 s6 hpc => ?_⟩
  have x6 := s6 _ _ x5
  have k6 : Keep x H H6 := k5.trans (Same.keep s6)
  refine ⟨_, rfl, x, CH, dx, fh2 h.g h.t, rfl, x6, R.cl, R.nC, fh_len2 _ _, ?_⟩
  have npc : pc ≠ x := by
    rintro rfl
    obtain ⟨dy, z⟩ := hpc
    rw [x6] at z
    injection z with z
    injection z with _ _ z
    have := fsR_top (rT h.c 6) (rB h.c 6)
    rw [← show fh2 h.g h.t = fsR (rT h.c 6) (rB h.c 6) from z] at this
    unfold fh2 fh1 at this
    rw [lookup_putF, if_neg (by decide +kernel), lookup_putF, if_neg (by decide +kernel)] at this
    cases this
  have k7 : Keep x H (upd H6 x (.ins CH dx (fh3 h.g h.t pc))) := fun b o n e => by rw [upd_ne n]; exact k6 _ _ n e
  have x7 : upd H6 x (.ins CH dx (fh3 h.g h.t pc)) x = some (.ins CH dx (fh3 h.g h.t pc)) := upd_same
  have hpc7 : Six C (upd H6 x (.ins CH dx (fh3 h.g h.t pc))) pc h.c := let ⟨dy, z⟩ := hpc; ⟨dy, by rw [upd_ne npc]; exact z⟩
  refine ⟨rfl, _, rfl, _, h.d, rfl, sd.keep hx k7, by have := k.ds; show h.d.natAbs < 2 ^ 60; omega, fun pd H8 s8 hpd => ?_⟩
  have x8 := s8 _ _ x7
  have k8 : Keep x H H8 := k7.trans (Same.keep s8)
  refine ⟨_, rfl, x, CH, dx, fh3 h.g h.t pc, rfl, x8, R.cl, R.nD, fh_len3 _ _ _, ?_⟩
  have npd : pd ≠ x := by
    rintro rfl
    obtain ⟨dy, z⟩ := hpd
    rw [x8] at z
    injection z with z
    injection z with _ _ z
    have := fsR_top (rT h.d 6) (rB h.d 6)
    rw [← show fh3 h.g h.t pc = fsR (rT h.d 6) (rB h.d 6) from z] at this
    unfold fh3 fh2 fh1 at this
    rw [lookup_putF, if_neg (by decide +kernel), lookup_putF, if_neg (by decide +kernel), lookup_putF, if_neg (by decide +kernel)] at this
    cases this
  refine q _ (fun b o n e => by rw [upd_ne n]; exact k8 _ _ n e) ⟨dx, pc, pd, upd_same, ?_, ?_⟩
  · obtain ⟨dy, z⟩ := hpc7.same s8
    exact ⟨dy, by rw [upd_ne npc]; exact z⟩
  · obtain ⟨dy, z⟩ := hpd
    exact ⟨dy, by rw [upd_ne npd]; exact z⟩
theorem scHR : FnScope ["self"] ["self"] (defScope sHRet) := ⟨rfl, rfl, rfl, by decide +kernel, rfl, by decide +kernel, by decide +kernel⟩
theorem ok_hret (R : HandF K CH) (M : MkH P w K mg base C CH) (F : DefAt K "returned" "HandOver.returned" sHRet f fd) : FnOk P w K mg base CX0 9 f fd ["self"] (spRet C CH) := by
  obtain ⟨fm, fdm, Mm, GM, bM⟩ := M.m
  refine okN F scHR (fun vs H Q E ⟨a, h, e, _⟩ => by rw [e]; rfl) (fun cdv A outer s H vs Q E hr ⟨a, h, e, ha, k, q⟩ => ?_)
  subst e
  refine ⟨_, pss_one (ps_ret (pe_make Mm GM hr rfl M.g bM .nil pass0 (pa_cons (pe_fld (pv 0) rfl) (pa_cons (pe_fld (pv 0) rfl) (pa_cons (pe_fld (pv 0) rfl) (pa_cons (pe_fld (pv 0) rfl) pa_nil)))))), ?_⟩
  obtain ⟨dx, pc, pd, h1, sc, sd⟩ := ha
  refine ⟨_, rfl, a, CH, dx, _, _, rfl, h1, R.cl, R.nT, fh_t _ _ _ _, _, rfl, a, CH, dx, _, _, rfl, h1, R.cl, R.nG, fh_g _ _ _ _, _, rfl, a, CH, dx, _, _, rfl, h1, R.cl, R.nD, fh_d _ _ _ _, _, rfl, a, CH, dx, _, _, rfl, h1, R.cl, R.nC, fh_c _ _ _ _, ?_⟩
  exact mk_hand (h := h.back) k.back (.inl ⟨pd, rfl, sd⟩) (.inl ⟨pc, rfl, sc⟩) q
theorem scHE : FnScope ["self", "name"] ["self", "name"] (defScope sHEff) := ⟨rfl, rfl, rfl, by decide +kernel, rfl, by decide +kernel, by decide +kernel⟩
theorem ok_heff (R : HandF K CH) (ON : Own P w K mg base C CX0 4 "__neg__" ["self"] (spNeg C)) (MR : MkR P w K mg base C) (F : DefAt K "effect" "HandOver.effect" sHEff f fd) : FnOk P w K mg base CX0 5 f fd ["self", "name"] (spEff C CH) := by
  obtain ⟨fn, fdn, MN, bN, GN⟩ := ON.h
  obtain ⟨fm, fdm, ds, M, GM, _, hv, bM⟩ := MR.m
  refine okN F scHE (fun vs H Q E ⟨a, h, n, e, _⟩ => by rw [e]; rfl) (fun cdv A outer s H vs Q E hr ⟨a, h, n, e, ha, k, q⟩ => ?_)
  subst e
  refine ⟨_, pss_cons (ps_if (pt_cmpR op_eq (pv 1) (pe_fld (pv 0) rfl) (nomark _)) (pss_one (ps_ret (pe_un (un_own MN GN hr bN pass0) (pe_fld (pv 0) rfl)))) pss_nil)
    (pss_cons (ps_if (pt_cmpR op_eq (pv 1) (pe_fld (pv 0) rfl) (nomark _)) (pss_one (ps_ret (pe_fld (pv 0) rfl))) pss_nil)
    (pss_one (ps_ret (pe_make M GM (hr.mono (by decide)) rfl MR.g bM hv pass0 (pa_cons pe_int pa_nil))))), ?_⟩
  obtain ⟨dx, pc, pd, h1, sc, sd⟩ := ha
  have hcs := k.cs
  refine ⟨_, rfl, _, rfl, a, CH, dx, _, _, rfl, h1, R.cl, R.nG, fh_g _ _ _ _, rfl, decide (n = h.g), by rw [decS], ?_⟩
  unfold Hnd.eff at q
  by_cases e1 : n = h.g
  · rw [decide_eq_true e1]
    rw [if_pos e1] at q
    obtain ⟨dy, z⟩ := id sc
    exact iteT ⟨_, rfl, a, CH, dx, _, _, rfl, h1, R.cl, R.nC, fh_c _ _ _ _, pc, dy, _, rfl, z, pc, h.c, rfl, sc, by show h.c.natAbs < 2 ^ 60; omega, fun p H' s' np hp => q p H' s' hp⟩
  · rw [decide_eq_false e1]
    rw [if_neg e1] at q
    refine iteF ⟨_, rfl, _, rfl, a, CH, dx, _, _, rfl, h1, R.cl, R.nT, fh_t _ _ _ _, rfl, decide (n = h.t), by rw [decS], ?_⟩
    by_cases e2 : n = h.t
    · rw [decide_eq_true e2]
      rw [if_pos e2] at q
      exact iteT ⟨_, rfl, a, CH, dx, _, _, rfl, h1, R.cl, R.nD, fh_d _ _ _ _, q pd H (Same.refl H) sd⟩
    · rw [decide_eq_false e2]
      rw [if_neg e2] at q
      refine iteF ?_
      exact mk_one (n := 0) (by decide) fun p H' s' np hp => q p H' s' hp
theorem scHQ : FnScope ["self", "other"] ["self", "other"] (defScope sHEq) := ⟨rfl, rfl, rfl, by decide +kernel, rfl, by decide +kernel, by decide +kernel⟩
/-- == of a class among its own -/
structure EqO (P : Program) (w : World) (K : PySem.W.Frag) (mg : Str → Option Value) (base : Heap) (C : Addr) (k : Nat) (sp : Sp) : Prop where
  o : Own P w K mg base C CX0 k "__eq__" ["self", "other"] sp
  nf : PySem.W.notFirst K C (.ref C) = true
theorem ok_heq (G : Glob mg) (R : HandF K CH) (RR : RatF K C) (gH : mg "HandOver" = some (.ref CH)) (OE : EqO P w K mg base C 1 (spREq C)) (F : DefAt K "__eq__" "HandOver.__eq__" sHEq f fd) : FnOk P w K mg base CX0 2 f fd ["self", "other"] (spHEq C CH) := by
  obtain ⟨fe, fde, ME, bE, GE⟩ := OE.o.h
  refine okN F scHQ (fun vs H Q E ⟨a, b, h, k, e, _⟩ => by rw [e]; rfl) (fun cdv A outer s H vs Q E hr ⟨a, b, h, k, e, ha, hb, q⟩ => ?_)
  subst e
  refine ⟨_, pss_cons (ps_if (PW.pt (pw_or (pt_not (pt_val (pe_callB call_isi (by rfl) G.isi (by decide +kernel) (pa_cons (pv 1) (pa_cons (pe_glob (v := .ref CH) rfl gH rfl) pa_nil)))))
      (pw_or (pt_cmpR op_ne (pe_fld (pv 0) rfl) (pe_fld (pv 1) rfl) (nomark _)) (pw_or1 (pt_cmpR op_ne (pe_fld (pv 0) rfl) (pe_fld (pv 1) rfl) (nomark _)))))) (pss_one (ps_ret pe_bl)) pss_nil)
    (pss_one (ps_ret (pe_and (pe_cmpR (op_eqO ME GE hr bE pass0) (pe_fld (pv 0) rfl) (pe_fld (pv 1) rfl) (nomark _)) (pe_one (pe_cmpR (op_eqO ME GE hr bE pass0) (pe_fld (pv 0) rfl) (pe_fld (pv 1) rfl) (nomark _)))))), ?_⟩
  obtain ⟨dx, pc, pd, h1, sc, sd⟩ := ha
  obtain ⟨dy, qc, qd, h2, tc, td⟩ := hb
  refine ⟨_, rfl, _, _, _, _, _, rfl, .own CH, .base (R.ty h2), R.me, true, rfl, iteF ?_⟩
  refine ⟨_, rfl, a, CH, dx, _, _, rfl, h1, R.cl, R.nG, fh_g _ _ _ _, _, rfl, b, CH, dy, _, _, rfl, h2, R.cl, R.nG, fh_g _ _ _ _, rfl, !decide (h.g = k.g), by rw [decS], ?_⟩
  by_cases e1 : h.g = k.g
  · rw [decide_eq_true e1]
    refine iteF ⟨_, rfl, a, CH, dx, _, _, rfl, h1, R.cl, R.nT, fh_t _ _ _ _, _, rfl, b, CH, dy, _, _, rfl, h2, R.cl, R.nT, fh_t _ _ _ _, rfl, !decide (h.t = k.t), by rw [decS], ?_⟩
    by_cases e2 : h.t = k.t
    · rw [decide_eq_true e2]
      obtain ⟨ex, x1⟩ := id sc
      obtain ⟨ey, y1⟩ := id tc
      obtain ⟨gx, x2⟩ := id sd
      obtain ⟨gy, y2⟩ := id td
      refine iteF ⟨_, rfl, a, CH, dx, _, _, rfl, h1, R.cl, R.nC, fh_c _ _ _ _, _, rfl, b, CH, dy, _, _, rfl, h2, R.cl, R.nC, fh_c _ _ _ _, pc, ex, _, _, rfl, x1, RR.ty y1, OE.nf, pc, qc, h.c, k.c, rfl, sc, tc, _, rfl, ?_⟩
      by_cases e3 : h.c = k.c
      · rw [decide_eq_true e3]
        refine iteT ⟨_, rfl, a, CH, dx, _, _, rfl, h1, R.cl, R.nD, fh_d _ _ _ _, _, rfl, b, CH, dy, _, _, rfl, h2, R.cl, R.nD, fh_d _ _ _ _, pd, gx, _, _, rfl, x2, RR.ty y2, OE.nf, pd, qd, h.d, k.d, rfl, sd, td, ?_⟩
        rw [decide_eq_decide.mpr (show h = k ↔ h.d = k.d from ⟨fun z => by rw [z], fun z => by cases h; cases k; simp_all⟩)] at q
        exact q
      · rw [decide_eq_false e3]
        rw [decide_eq_false (show ¬ h = k from fun z => e3 (by rw [z]))] at q
        exact iteF q
    · rw [decide_eq_false e2]
      rw [decide_eq_false (show ¬ h = k from fun z => e2 (by rw [z]))] at q
      exact iteT q
  · rw [decide_eq_false e1]
    rw [decide_eq_false (show ¬ h = k from fun z => e1 (by rw [z]))] at q
    exact iteT q
end
end K5

/-! k05: swaps as objects; their making. -/
namespace K5
open PySem PySem.Spec PyProof.Rows L2 LamX K1 K18

/-! a text among texts -/
theorem eqv_S (a b : Str) : eqV (.str a) (.str b) = decide (a = b) := by
  show (a == b) = _
  by_cases h : a = b
  · rw [decide_eq_true h, h]; simp
  · rw [decide_eq_false h]; simpa using h
theorem inV_S (n : Str) (ns : List Str) : inV (.str n) (ns.map V.str) = decide (n ∈ ns) := by
  unfold inV
  induction ns with
  | nil => simp
  | cons a r ih =>
    rw [List.map_cons, List.any_cons, ih, eqv_S, Bool.eq_iff_iff, Bool.or_eq_true, decide_eq_true_iff, decide_eq_true_iff, decide_eq_true_iff, List.mem_cons]
    exact or_congr eq_comm Iff.rfl
theorem flat_S (ns : List Str) : (ns.map V.str).all flatV = true := by rw [List.all_map]; exact List.all_eq_true.mpr fun _ _ => rfl
/-! ### its attributes -/
theorem n_hs : ¬ (("hands" : Str) = "strangers") := by decide +kernel
theorem n_ns : ¬ (("nets" : Str) = "strangers") := by decide +kernel
theorem n_nh : ¬ (("nets" : Str) = "hands") := by decide +kernel
def fs1 (p : Addr) : List (Str × V) := putF "strangers" (.ref p) []
def fs2 (p h : Addr) : List (Str × V) := putF "hands" (.ref h) (fs1 p)
def fsS (p h n : Addr) : List (Str × V) := putF "nets" (.ref n) (fs2 p h)
section
variable (p h n : Addr)
theorem fs_s : (fsS p h n).lookup ("strangers" : Str) = some (.ref p) := by unfold fsS fs2 fs1; rw [lookup_putF, if_neg (Ne.symm n_ns), lookup_putF, if_neg (Ne.symm n_hs), lookup_putF, if_pos rfl]
theorem fs_h : (fsS p h n).lookup ("hands" : Str) = some (.ref h) := by unfold fsS fs2; rw [lookup_putF, if_neg (Ne.symm n_nh), lookup_putF, if_pos rfl]
theorem fs_n : (fsS p h n).lookup ("nets" : Str) = some (.ref n) := by unfold fsS; rw [lookup_putF, if_pos rfl]
end
/-- what one has had at the end -/
def net (hs : List Hnd) (n : Str) : Int := ((hs.filter fun h => decide (n = h.g) || decide (n = h.t)).map fun h => h.eff n).sum
structure SwOk (ns : List Str) (hs : List Hnd) : Prop where
  n2 : 2 ≤ ns.length
  n6 : ns.length ≤ 6
  nd : ns.Nodup
  nm : ∀ n ∈ ns, Nm n
  hk : ∀ h ∈ hs, HnOk h ∧ h.g ∈ ns ∧ h.t ∈ ns
/-- the hand-overs of a list, a tuple -/
abbrev Hands (C CH : Addr) (H : Hp) (as : List Addr) (hs : List Hnd) : Prop := All2 (HandAt C CH H) as hs
theorem Hands.same {C CH : Addr} {H H' : Hp} {as : List Addr} {hs : List Hnd} (s : Same H H') (h : Hands C CH H as hs) : Hands C CH H' as hs := h.mono fun _ _ z => z.same s
/-- a tuple just made, its record known: no dict -/
def TupZ (H : Hp) (p : Addr) (xs : List V) : Prop := ∃ o : Obj, H p = some (.frz o (.tup xs)) ∧ o.dict = none
theorem TupZ.same {H H' : Hp} {p : Addr} {xs : List V} (s : Same H H') (h : TupZ H p xs) : TupZ H' p xs := let ⟨o, a, b⟩ := h; ⟨o, s _ _ a, b⟩
theorem TupZ.sq {K : PySem.W.Frag} {H : Hp} {p : Addr} {xs : List V} (h : TupZ H p xs) : SqT K H p xs := let ⟨o, a, _⟩ := h; .inl (.inr ⟨o, a⟩)
theorem TupZ.ne {H : Hp} {p x C dx : Addr} {fs : List (Str × V)} {xs : List V} (h : TupZ H p xs) (hx : H x = some (.ins C dx fs)) : p ≠ x := by
  rintro rfl
  obtain ⟨o, a, _⟩ := h
  rw [hx] at a
  cases a
theorem TupZ.keep {H H' : Hp} {p x : Addr} {xs : List V} (h : TupZ H p xs) (n : p ≠ x) (k : Keep x H H') : TupZ H' p xs := let ⟨o, a, b⟩ := h; ⟨o, k _ _ n a, b⟩
/-- at a stands Swap(ns, hs) -/
def SwAt (C CH CS : Addr) (H : Hp) (a : Addr) (ns : List Str) (hs : List Hnd) : Prop := ∃ dx ps ph pn as nas, H a = some (.ins CS dx (fsS ps ph pn)) ∧ TupZ H ps (ns.map V.str) ∧ H ph = some (.tup (as.map V.ref)) ∧ Hands C CH H as hs ∧
  H pn = some (.tup (nas.map V.ref)) ∧ All2 (Six C H) nas (ns.map (net hs))
theorem SwAt.same {C CH CS : Addr} {H H' : Hp} {a : Addr} {ns : List Str} {hs : List Hnd} (s : Same H H') (h : SwAt C CH CS H a ns hs) : SwAt C CH CS H' a ns hs :=
  let ⟨dx, ps, ph, pn, as, nas, h1, h2, h3, h4, h5, h6⟩ := h
  ⟨dx, ps, ph, pn, as, nas, s _ _ h1, h2.same s, s _ _ h3, h4.same s, s _ _ h5, h6.mono fun _ _ z => z.same s⟩
structure SwapF (K : PySem.W.Frag) (C : Addr) : Prop extends ClsF K C where
  nS : NoAttr K C "strangers"
  nH : NoAttr K C "hands"
  nN : NoAttr K C "nets"
  cr : ClX.CRead K C (.type "type")
  m6 : ∃ u, ClX.CVal K C (.type "type") "MOST_STRANGERS" (.int 6) u
  m40 : ∃ u, ClX.CVal K C (.type "type") "MOST_HANDS" (.int 40) u
theorem fsH_ne (g t : Str) (c d : Addr) : fsH g t c d ≠ [] := fun z => by have := fh_d g t c d; rw [z] at this; cases this
theorem HandAt.keep {C CH CS : Addr} {H H' : Hp} {a x dx : Addr} {h : Hnd} (k : HandAt C CH H a h) (hx : H x = some (.ins CS dx [])) (s : Keep x H H') : HandAt C CH H' a h := by
  obtain ⟨dy, pc, pd, h1, h2, h3⟩ := k
  have na : a ≠ x := by
    rintro rfl
    rw [hx] at h1
    injection h1 with h1
    injection h1 with _ _ h1
    exact fsH_ne _ _ _ _ h1.symm
  have n2 := h2.ne hx
  have n3 := h3.ne hx
  obtain ⟨d2, h2⟩ := h2
  obtain ⟨d3, h3⟩ := h3
  exact ⟨dy, pc, pd, s _ _ na h1, ⟨d2, s _ _ n2 h2⟩, ⟨d3, s _ _ n3 h3⟩⟩
theorem Hands.keep {C CH CS : Addr} {H H' : Hp} {as : List Addr} {x dx : Addr} {hs : List Hnd} (k : Hands C CH H as hs) (hx : H x = some (.ins CS dx [])) (s : Keep x H H') : Hands C CH H' as hs := k.mono fun _ _ z => z.keep hx s
theorem sqa_keep {H H' : Hp} {a x C dx : Addr} {fs : List (Str × V)} {xs : List V} (q : SqA H a xs) (hx : H x = some (.ins C dx fs)) (s : Keep x H H') : SqA H' a xs := by
  rcases q with q | q
  · exact .inl (s _ _ (ne_of q hx (fun z => nomatch z)) q)
  · exact .inr (s _ _ (ne_of q hx (fun z => nomatch z)) q)
def spParties (C CH : Addr) : Sp := fun vs H Q _ => ∃ (a : Addr) (h : Hnd) (b : Addr) (ns : List Str), vs = [.ref a, .ref b] ∧ HandAt C CH H a h ∧ SqA H b (ns.map V.str) ∧ h.g ∈ ns ∧ h.t ∈ ns ∧ ∀ H', Same H H' → Q .non H'
def spNetOf (C CH : Addr) : Sp := fun vs H Q _ => ∃ (b : Addr) (as : List Addr) (hs : List Hnd) (n : Str), vs = [.ref b, .str n] ∧ SqA H b (as.map V.ref) ∧ Hands C CH H as hs ∧ (∀ h ∈ hs, HnOk h) ∧ hs.length ≤ 100 ∧ ∀ p H', Same H H' → H p = none → Six C H' p (net hs n) → Q (.ref p) H'
section
variable {P : Program} {w : World} {K : PySem.W.Frag} {mg : Str → Option Value} {base : Heap} {f C CH CS : Addr} {fd : FuncData}
theorem scPa : FnScope ["hand", "strangers", "name"] ["hand", "strangers"] (defScope sParties) := ⟨rfl, rfl, rfl, by decide +kernel, rfl, by decide +kernel, by decide +kernel⟩
theorem ok_parties (R : HandF K CH) (F : DefAt K "_check_parties" "_check_parties" sParties f fd) : FnOk P w K mg base CX0 1 f fd ["hand", "strangers"] (spParties C CH) := by
  refine okN F scPa (fun vs H Q E ⟨a, h, b, ns, e, _⟩ => by rw [e]; rfl) (fun cdv A outer s H vs Q E hr ⟨a, h, b, ns, e, ha, sq, m1, m2, q⟩ => ?_)
  subst e
  refine ⟨_, pss_one (ps_for PassesOwn.never rfl (pi_seq (pe_tup (pa_cons (pe_fld (pv 0) rfl) (pa_cons (pe_fld (pv 0) rfl) pa_nil)))) (pg_name (i := 2) scPa.nd rfl (Or.inl rfl))
    (pss_one (ps_if (pt_cmpR op_notIn_seq (pv 2) (pv 1) (by rfl)) pss_dead pss_nil))), ?_⟩
  obtain ⟨dx, pc, pd, h1, sc, sd⟩ := ha
  refine ⟨_, rfl, a, CH, dx, _, _, rfl, h1, R.cl, R.nG, fh_g _ _ _ _, _, rfl, a, CH, dx, _, _, rfl, h1, R.cl, R.nT, fh_t _ _ _ _, (by show 2 ≤ sizeLine; decide), fun t nt => ?_⟩
  have s1 := upd_new (o := .tup [V.str h.g, .str h.t]) nt
  have ht : upd H t (.tup [V.str h.g, .str h.t]) t = some (.tup [V.str h.g, .str h.t]) := upd_same
  generalize upd H t (.tup [V.str h.g, .str h.t]) = H1 at s1 ht ⊢
  refine ⟨t, rfl, ?_⟩
  refine for_seqA (xs := [V.str h.g, .str h.t]) (.inr ht) (fun i σ H2 => H2 = H1 ∧ ∃ z, σ = [some (.ref a), some (.ref b), z]) ⟨rfl, none, rfl⟩ (fun i σ' H' _ z => by rw [z.1]) ?_ ?_
  · rintro i x σ H2 hx ⟨rfl, z, rfl⟩
    obtain ⟨n, rfl, mn⟩ : ∃ n, x = .str n ∧ n ∈ ns := by
      match i, hx with
      | 0, hx => cases hx; exact ⟨_, rfl, m1⟩
      | 1, hx => cases hx; exact ⟨_, rfl, m2⟩
      | i + 2, hx => simp at hx
    refine ⟨_, rfl, _, rfl, b, _, rfl, (sq.same s1).imp SqL.of SqT.of, rfl, flat_S ns, false, ?_, iteF ⟨rfl, _, rfl⟩⟩
    rw [inV_S, decide_eq_true mn]
    rfl
  · rintro σ H2 ⟨rfl, z, rfl⟩
    exact q _ s1
theorem scNet : FnScope ["hands", "name", "hand"] ["hands", "name"] (defScope sNetOf) := ⟨rfl, rfl, rfl, by decide +kernel, rfl, by decide +kernel, by decide +kernel⟩
/-- x.effect(name) -/
structure EffM (P : Program) (w : World) (K : PySem.W.Frag) (mg : Str → Option Value) (base : Heap) (C CH : Addr) : Prop where
  h : ∃ f fd, Meth K CH "effect" f ∧ Binds K fd ["self", "name"] [] ∧ FnOk P w K mg base CX0 5 f fd ["self", "name"] (spEff C CH)
theorem no_eff (g t : Str) (c d : Addr) : (fsH g t c d).lookup ("effect" : Str) = none := fh_no _ _ _ _ (by decide +kernel) (by decide +kernel) (by decide +kernel) (by decide +kernel)
theorem ok_netOf (R : HandF K CH) (EM : EffM P w K mg base C CH) (HA : HasAdded P w K mg base C) (F : DefAt K "_net_of" "_net_of" sNetOf f fd) : FnOk P w K mg base CX0 7 f fd ["hands", "name"] (spNetOf C CH) := by
  obtain ⟨fe, fde, Me, bE, GE⟩ := EM.h
  obtain ⟨fa, fda, mA, kA, bA, GA⟩ := HA.h
  refine okN F scNet (fun vs H Q E ⟨b, as, hs, n, e, _⟩ => by rw [e]; rfl) (fun cdv A outer s H vs Q E hr ⟨b, as, hs, n, e, sq, hh, ok, l, q⟩ => ?_)
  subst e
  refine ⟨_, pss_one (ps_ret (pe_call GA hr rfl mA kA bA .nil pass0 (pa_cons
    (pe_lc (own := [("hand", 2)]) (g := gName 2) rfl scNet.nd (pi_seq (pv 0)) (blkOk_by (N := ["hands", "name", "hand"]) (sc := defScope sNetOf) (by decide +kernel))
      (fun _ _ _ _ _ => pg_name (i := 2) scNet.nd rfl (Or.inl rfl)) (fun _ _ _ _ _ => pts_one (pt_cmpR (r := rIn K false) op_in_seq (pv 1) (pe_tup (pa_cons (show PE _ _ (tFld K (tVar 2) "giver") from pe_fld (pv 2) rfl) (pa_cons (show PE _ _ (tFld K (tVar 2) "taker") from pe_fld (pv 2) rfl) pa_nil))) (by rfl)))
      (fun _ _ _ _ _ => pe_meth (pv 2) R.cl Me GE (hr.mono (by decide)) bE .nil pass0 (pa_cons (pv 1) pa_nil))) pa_nil))), ?_⟩
  have sz : sizeLine = 16777216 := sizeLine_eq
  refine ⟨_, rfl, b, rfl, ?_⟩
  refine lc_seqA sq fun D hD => ⟨fun i H2 => Same H H2 ∧ SixL C H2 D (((hs.take i).filter fun h => decide (n = h.g) || decide (n = h.t)).map fun h => h.eff n), ⟨upd_new hD, [], upd_same, .nil⟩, fun i H2 _ z => ?_, ?_, ?_⟩
  · obtain ⟨o, e⟩ := sq.there
    rw [e, z.1 _ _ e]
  · rintro i x H2 hx ⟨s2, sl2⟩
    obtain ⟨a, ha, rfl⟩ := map_at hx
    obtain ⟨h, eh, hat⟩ := hh.get ha
    have li := (List.getElem?_eq_some_iff.mp eh).1
    have hat2 := hat.same s2
    obtain ⟨dx, pc, pd, h1, _, _⟩ := id hat2
    refine ⟨rfl, _, rfl, _, rfl, a, CH, dx, _, _, rfl, h1, R.cl, R.nG, fh_g _ _ _ _, _, rfl, a, CH, dx, _, _, rfl, h1, R.cl, R.nT, fh_t _ _ _ _, (by show 2 ≤ sizeLine; decide), fun t nt => ?_⟩
    have s3 := upd_new (o := .tup ([V.str h.g, .str h.t])) nt
    have ht : upd H2 t (.tup [V.str h.g, .str h.t]) t = some (.tup [V.str h.g, .str h.t]) := upd_same
    generalize upd H2 t (.tup [V.str h.g, .str h.t]) = H3 at s3 ht ⊢
    · refine ⟨t, [h.g, h.t].map V.str, rfl, .inr (SqT.of ht), rfl, flat_S _, decide (n = h.g) || decide (n = h.t), ?_, ?_⟩
      · rw [inV_S]; simp
      · have sl3 := sl2.same s3
        have step : (hs.take (i + 1)).filter (fun h => decide (n = h.g) || decide (n = h.t)) = (hs.take i).filter (fun h => decide (n = h.g) || decide (n = h.t)) ++ if (decide (n = h.g) || decide (n = h.t)) = true then [h] else [] := by
          rw [take_more eh, List.filter_append, List.filter_cons, List.filter_nil]
        cases c : decide (n = h.g) || decide (n = h.t) with
        | false =>
          rw [c] at step
          refine iteF ⟨s2.trans s3, ?_⟩
          rw [step]
          simpa using sl3
        | true =>
          rw [c] at step
          have h13 := s3 _ _ h1
          refine iteT ⟨_, rfl, a, dx, _, rfl, h13, no_eff _ _ _ _, _, rfl, a, h, n, rfl, hat2.same s3, ok h (List.mem_of_getElem? eh), fun p H4 s4 hp => ?_⟩
          obtain ⟨ps, hd, al⟩ := sl3.same s4
          refine ⟨_, hd, ?_, same_upd hD ((s2.trans s3).trans s4), ps ++ [p], by rw [upd_same, List.map_append]; rfl, ?_⟩
          · have : ps.length ≤ 100 := by
              rw [al.1, List.length_map]
              refine Nat.le_trans (List.length_filter_le _ _) ?_
              rw [List.length_take]; omega
            rw [List.length_map]; omega
          · have nD : ∀ b', Six C H4 b' (h.eff n) → b' ≠ D := fun b' ⟨dy, z⟩ => ne_of z hd (fun z => nomatch z)
            rw [step]
            simp only [if_true, List.map_append, List.map_cons, List.map_nil]
            refine All2.snoc (al.mono fun u v z => ?_) ?_
            · obtain ⟨dy, z⟩ := z
              exact ⟨dy, by rw [upd_ne (ne_of z hd (fun z => nomatch z))]; exact z⟩
            · obtain ⟨dy, z⟩ := hp
              exact ⟨dy, by rw [upd_ne (ne_of z hd (fun z => nomatch z))]; exact z⟩
  · rintro H2 ⟨s2, sl2⟩
    rw [List.length_map, hh.1, List.take_length] at sl2
    refine ⟨D, _, rfl, sl2, ⟨?_, fun x hx => ?_⟩, fun p H3 s3 np hp => q p H3 (s2.trans s3) (s2.free np) hp⟩
    · rw [List.length_map]; exact Nat.le_trans (List.length_filter_le _ _) l
    · obtain ⟨h, hm, rfl⟩ := List.mem_map.mp hx
      exact eff_sm (ok h (List.mem_filter.mp hm).1) n
end
end K5

/-! k05: Swap.__init__. -/
namespace K5
open PySem PySem.Spec PyProof.Rows L2 LamX K1 K18

/-- len(a list or a tuple) -/
def rLenA (K : PySem.W.Frag) : List V → Hp → VK → Prop := fun xs H Q => ∃ p ys, xs = [V.ref p] ∧ (SqL K H p ys ∨ SqT K H p ys) ∧ Q (.int (ys.length : Nat)) H
theorem call_lenA {X : Cx} {K : PySem.W.Frag} (hK : X.K = K) : CallR X (.builtin "len") (rLenA K) := by
  subst hK
  exact fun pins s σ H xs us Q I r ⟨p, ys, e, h, q⟩ => call_len_seq pins s σ H xs us Q I r ⟨p, ys, e, h, q⟩
/-- tuple(x), in any context of the written part K -/
def rTupK (K : PySem.W.Frag) : List V → Hp → VK → Prop := fun xs H Q => ∃ p ys, xs = [V.ref p] ∧ ((SqL K H p ys ∧ ∀ l, H l = none → Q (.ref l) (upd H l (.tup ys))) ∨ (SqT K H p ys ∧ Q (.ref p) H))
theorem call_tupK {X : Cx} {K : PySem.W.Frag} (hK : X.K = K) : CallR X (.type "tuple") (rTupK K) := by
  subst hK
  exact fun pins s σ H xs us Q I r h => call_tuple_of pins s σ H xs us Q I r h
theorem tup_any {K : PySem.W.Frag} {H : Hp} {b : Addr} {xs : List V} {Q : VK} (sq : SqA H b xs) (go : ∀ t H1, Same H H1 → H1 t = some (.tup xs) → Q (.ref t) H1) : rTupK K [.ref b] H Q := by
  refine ⟨b, xs, rfl, ?_⟩
  rcases sq with q | q
  · exact .inl ⟨SqL.of q, fun l nl => go l _ (upd_new nl) upd_same⟩
  · exact .inr ⟨SqT.of q, go b H (Same.refl _) q⟩
/-- x.f = tuple(y) -/
theorem fld_tup {K : PySem.W.Frag} {i : Nat} {x b : Addr} {f : Str} {xs : List V} {D : Ends} {σ : L2.St} {H : Hp} (h0 : σ[0]? = some (some (.ref x))) (hi : σ[i]? = some (some (.ref b))) (sq : SqA H b xs)
    (go : ∀ t H1, Same H H1 → H1 t = some (.tup xs) → ∃ C dx fs, H1 x = some (.ins C dx fs) ∧ Cls K C ∧ NoAttr K C f ∧ fs.length < 1000 ∧ D.nx σ (upd H1 x (.ins C dx (putF f (.ref t) fs)))) :
    sFld K (tVar 0) (tCB (rTupK K) (tCons (tVar i) tNil)) f D σ H := by
  refine ⟨_, hi, ?_⟩
  show rTupK K [.ref b] H (fun y H1 => tVar 0 σ H1 fun x H2 => ∃ a C dx fs, x = .ref a ∧ H2 a = some (.ins C dx fs) ∧ Cls K C ∧ NoAttr K C f ∧ fs.length < 1000 ∧ D.nx σ (upd H2 a (.ins C dx (putF f y fs))))
  refine tup_any sq fun t H1 s h => ?_
  obtain ⟨C, dx, fs, a1, a2, a3, a4, a5⟩ := go t H1 s h
  exact ⟨_, h0, x, C, dx, fs, rfl, a1, a2, a3, a4, a5⟩
/-- tuple(x) of a list, its record known -/
def rTupZ (K : PySem.W.Frag) : List V → Hp → VK → Prop := fun xs H Q => ∃ p ys, xs = [V.ref p] ∧ SqL K H p ys ∧ ∀ (l : Addr) (o : Obj), H l = none → o.dict = none → Q (.ref l) (upd H l (.frz o (.tup ys)))
theorem call_tupZ {X : Cx} {K : PySem.W.Frag} (hK : X.K = K) : CallR X (.type "tuple") (rTupZ K) := by
  subst hK
  intro pins s σ H xs us Q I r ⟨p, ys, exs, hq, q⟩
  subst exs
  cases r with
  | cons rx rr =>
    cases rr
    cases rx
    obtain ⟨its, r', pl, hz⟩ := I.list hq
    have hlen := r'.length
    refine call_tuple_list pl.isList (fun g kp => ?_) (by simp only [List.size_toArray] <;> omega)
    have J : Inv X pins σ H { s with heap := g } := I.kept (t' := s.toks) kp
    have at_ : (g.push { cls := .type "tuple", data := .seq its.toArray }).get? g.objs.size = some { cls := .type "tuple", data := .seq its.toArray } := Heap.get?_push_size _ rfl
    refine ⟨.ref g.objs.size, _, J.laid (t' := s.toks) (o := .frz { cls := .type "tuple", data := .seq its.toArray } (.tup ys)) (fun b o e => Heap.get?_push_of_some _ e) (Nat.le_refl _) ⟨at_, hz, its, r', IsTup.new _ _⟩, rfl, q _ _ (J.hok.fresh (Nat.le_refl _)) rfl⟩
/-- x.f = tuple(y), y a list -/
theorem fld_tupZ {K : PySem.W.Frag} {i : Nat} {x b : Addr} {f : Str} {xs : List V} {D : Ends} {σ : L2.St} {H : Hp} (h0 : σ[0]? = some (some (.ref x))) (hi : σ[i]? = some (some (.ref b))) (sq : H b = some (.lst xs))
    (go : ∀ t H1, Same H H1 → TupZ H1 t xs → ∃ C dx fs, H1 x = some (.ins C dx fs) ∧ Cls K C ∧ NoAttr K C f ∧ fs.length < 1000 ∧ D.nx σ (upd H1 x (.ins C dx (putF f (.ref t) fs)))) :
    sFld K (tVar 0) (tCB (rTupZ K) (tCons (tVar i) tNil)) f D σ H := by
  refine ⟨_, hi, b, xs, rfl, SqL.of sq, fun t o nt od => ?_⟩
  obtain ⟨C, dx, fs, a1, a2, a3, a4, a5⟩ := go t _ (upd_new nt) ⟨o, upd_same, od⟩
  exact ⟨_, h0, x, C, dx, fs, rfl, a1, a2, a3, a4, a5⟩
/-- the errors' dict, its fields -/
abbrev fTooMany : List (Str × V) := [("most", .int 40), ("what", .str "hands")]
/-- the errors' fields told, all that was there there -/
def spSInit (C CH CS CM : Addr) : Sp := fun vs H Q E => ∃ (x dx sa ha : Addr) (ns : List Str) (as : List Addr) (hs : List Hnd), vs = [.ref x, .ref sa, .ref ha] ∧ H x = some (.ins CS dx []) ∧ H sa = some (.lst (ns.map V.str)) ∧ SqA H ha (as.map V.ref) ∧ Hands C CH H as hs ∧ SwOk ns hs ∧ hs.length ≤ 100 ∧
  (hs.length ≤ 40 → ∀ H', Keep x H H' → SwAt C CH CS H' x ns hs → Q .non H') ∧ (40 < hs.length → ∀ d H', ToldF H H' d fTooMany → E (.ref CM) (some d) H')
abbrev HasParties (P : Program) (w : World) (K : PySem.W.Frag) (mg : Str → Option Value) (base : Heap) (C CH : Addr) : Prop := Has P w K mg base CX0 1 "_check_parties" ["hand", "strangers"] (spParties C CH)
abbrev HasNetOf (P : Program) (w : World) (K : PySem.W.Frag) (mg : Str → Option Value) (base : Heap) (C CH : Addr) : Prop := Has P w K mg base CX0 7 "_net_of" ["hands", "name"] (spNetOf C CH)
section
variable {P : Program} {w : World} {K : PySem.W.Frag} {mg : Str → Option Value} {base : Heap} {f C CH CS CW CD CI CT CU CM : Addr} {fd : FuncData}
abbrev nSI : List Str := ["self", "strangers", "hands", "hand", "name"]
theorem scSI : FnScope nSI ["self", "strangers", "hands"] (defScope sSInit) := ⟨rfl, rfl, rfl, by decide +kernel, rfl, by decide +kernel, by decide +kernel⟩
theorem ok_sinit (G : Glob mg) (R : SwapF K CS) (RH : HandF K CH) (gS : mg "Swap" = some (.ref CS)) (gH : mg "HandOver" = some (.ref CH)) (HN : HasNames P w K mg base) (HL : HasListed P w K mg base) (HT : HasTwiceS P w K mg base) (HP : HasParties P w K mg base C CH) (HO : HasNetOf P w K mg base C CH)
    (B : Errs P w K mg base CW CD CI CT CU CM) (F : DefAt K "__init__" "Swap.__init__" sSInit f fd) : FnOk P w K mg base (L2.CX P w) 8 f fd ["self", "strangers", "hands"] (spSInit C CH CS CM) := by
  obtain ⟨fn, fdn, mN, kN, bN, GN⟩ := HN.h
  obtain ⟨fl, fdl, mL, kL, bL, GL⟩ := HL.h
  obtain ⟨ft, fdt, mT, kT, bT, GT⟩ := HT.h
  obtain ⟨fp, fdp, mP, kP_, bP, GP⟩ := HP.h
  obtain ⟨fo, fdo, mO, kO, bO, GO⟩ := HO.h
  obtain ⟨u6, v6⟩ := R.m6
  obtain ⟨u40, v40⟩ := R.m40
  refine okX F scSI (fun vs H Q E ⟨x, dx, sa, ha, ns, as, hs, e, _⟩ => by rw [e]; rfl) (fun cdv A outer s H vs Q E hr ⟨x, dx, sa, ha, ns, as, hs, e, hx, sqs0, sqh, hh, ok, l100, qk, qe⟩ => ?_)
  subst e
  have sqs : SqA H sa (ns.map V.str) := .inl sqs0
  have tk : Takes (cxOf (L2.CX P w) P w K mg base nSI "Swap.__init__" (defScope sSInit) f cdv A outer s H E) (fun cls d _ H' => E cls d H') := takes_of rfl rfl rfl rfl
  have r1 := hr.mono (show 1 ≤ 7 by decide)
  have r2 := hr.mono (show 2 ≤ 7 by decide)
  refine ⟨_, pss_cons (ps_if (PW.pt (pw_or (pt_not (pt_val (pe_call GN r2 rfl mN kN bN .nil pass0 (pa_cons (pv 1) pa_nil)))) (pw_or1 (pt_cmpR op_lt (pe_callB (r := rLenA K) (call_lenA rfl) (by rfl) G.len PySem.boot_len (pa_cons (pv 1) pa_nil)) pe_int (nomark _))))) pss_dead pss_nil)
    (pss_cons (ps_if (PW.pt (pw_or (pt_not (pt_val (pe_call GL r1 rfl mL kL bL .nil pass0 (pa_cons (pv 2) pa_nil)))) (pw_or1 (pt_not (pt_val (pe_callB (cr_all rfl) (by rfl) G.all (by decide +kernel) (pa_cons
          (pe_lc (own := [("hand", 3)]) (g := gName 3) (tt := tYes) rfl scSI.nd (pi_seq (pv 2)) (blkOk_by (N := nSI) (sc := defScope sSInit) (by decide +kernel))
            (fun _ _ _ _ _ => pg_name (i := 3) scSI.nd rfl (Or.inl rfl)) (fun _ _ _ _ _ => pts_nil) (fun _ _ _ _ _ => pe_callB (r := rIsi K) call_isi (by rfl) G.isi (by decide +kernel) (pa_cons (pv 3) (pa_cons (pe_glob (v := .ref CH) rfl gH rfl) pa_nil)))) pa_nil))))))) pss_dead pss_nil)
    (pss_cons (ps_expr (pe_call GT r1 rfl mT kT bT .nil pass0 (pa_cons (pv 1) pa_nil)))
    (pss_cons (ps_for (passes_of rfl) rfl (pi_seq (pv 2)) (pg_name (i := 3) scSI.nd rfl (Or.inl rfl)) (pss_one (ps_expr (pe_call GP r1 rfl mP kP_ bP .nil pass0 (pa_cons (pv 3) (pa_cons (pv 1) pa_nil))))))
    (pss_cons (ps_if (pt_cmpR op_gt (pe_callB (r := rLenA K) (call_lenA rfl) (by rfl) G.len PySem.boot_len (pa_cons (pv 1) pa_nil)) (ClX.pe_cval (pe_glob (v := .ref CS) rfl gS rfl)) (nomark _)) pss_dead pss_nil)
    (pss_cons (ps_if (pt_cmpR op_gt (pe_callB (r := rLenA K) (call_lenA rfl) (by rfl) G.len PySem.boot_len (pa_cons (pv 2) pa_nil)) (ClX.pe_cval (pe_glob (v := .ref CS) rfl gS rfl)) (nomark _)) (pss_one (ps_rs B.many rfl tk r2 (pa_cons pe_str (pa_cons (ClX.pe_cval (pe_glob (v := .ref CS) rfl gS rfl)) pa_nil)))) pss_nil)
    (pss_cons (ps_fld (pv 0) (pe_callTy (r := rTupZ K) (call_tupZ rfl) (by rfl) G.tup (by decide +kernel) (pa_cons (pv 1) pa_nil)) rfl)
    (pss_cons (ps_fld (pv 0) (pe_callTy (r := rTupK K) (call_tupK rfl) (by rfl) G.tup (by decide +kernel) (pa_cons (pv 2) pa_nil)) rfl)
    (pss_one (ps_fld (pv 0) (pe_callTy (r := rTupK K) (call_tupK rfl) (by rfl) G.tup (by decide +kernel) (pa_cons
          (pe_lc (own := [("name", 4)]) (g := gName 4) (tt := tYes) rfl scSI.nd (pi_seq (pv 1)) (blkOk_by (N := nSI) (sc := defScope sSInit) (by decide +kernel))
            (fun _ _ _ _ _ => pg_name (i := 4) scSI.nd rfl (Or.inl rfl)) (fun _ _ _ _ _ => pts_nil) (fun _ _ _ _ _ => pe_call GO hr rfl mO kO bO .nil pass0 (pa_cons (pv 2) (pa_cons (pv 4) pa_nil)))) pa_nil)) rfl))))))))), ?_⟩
  have sz : sizeLine = 16777216 := sizeLine_eq
  have n2 := ok.n2
  have n6 := ok.n6
  refine ⟨_, rfl, sa, ns, rfl, sqs, ok.nm, by omega, fun H1 s1 => ⟨true, rfl, iteF ?_⟩⟩
  refine ⟨_, rfl, sa, _, rfl, (sqs.same s1).imp SqL.of SqT.of, _, _, rfl, rfl, false, congrArg V.bl (decide_eq_false (by rw [List.length_map]; omega)), iteF ?_⟩
  refine ⟨_, rfl, _, rfl, .inr ⟨ha, _, rfl, sqh.same s1, fun H2 s2 => ⟨true, rfl, iteF ?_⟩⟩⟩
  have s02 := s1.trans s2
  refine ⟨_, rfl, ha, rfl, ?_⟩
  refine lc_seqA (sqh.same s02) fun D hD => ⟨fun i H3 => Same H2 H3 ∧ H3 D = some (.lst (List.replicate i (V.bl true))), ⟨upd_new hD, upd_same⟩, fun i H3 _ z => ?_, ?_, ?_⟩
  · obtain ⟨o, e⟩ := (sqh.same s02).there
    rw [e, z.1 _ _ e]
  · rintro i y H3 hy ⟨s3, h3⟩
    obtain ⟨a, ea, rfl⟩ := map_at hy
    obtain ⟨h, eh, hat⟩ := hh.get ea
    have li := (List.getElem?_eq_some_iff.mp eh).1
    obtain ⟨dy, pc, pd, h1, _, _⟩ := hat.same (s02.trans s3)
    exact ⟨rfl, yes_of ⟨_, rfl, _, _, _, _, _, rfl, .own CH, .base (RH.ty h1), RH.me, _, h3, by rw [List.length_replicate]; omega, same_upd hD s3, by rw [rep_snoc, upd_same]⟩⟩
  rintro H3 ⟨s3, h3⟩
  refine ⟨D, List.replicate _ true, rfl, SqL.of (by rw [h3, List.map_replicate]), ?_⟩
  rw [all_true]
  refine ⟨true, rfl, iteF ?_⟩
  have s03 := s02.trans s3
  refine ⟨_, rfl, sa, ns, rfl, sqs.same s03, by omega, ok.nd, fun H4 s4 => ?_⟩
  have s04 := s03.trans s4
  refine ⟨_, rfl, ha, rfl, ?_⟩
  refine for_seqA (sqh.same s04) (fun i σ H5 => Same H4 H5 ∧ ∃ z, σ = [some (.ref x), some (.ref sa), some (.ref ha), z, none]) ⟨Same.refl _, none, rfl⟩ (fun i σ' H' _ z => ?_) ?_ ?_
  · obtain ⟨o, e⟩ := (sqh.same s04).there
    rw [e, z.1 _ _ e]
  · rintro i y σ H5 hy ⟨s5, z, rfl⟩
    obtain ⟨a, ea, rfl⟩ := map_at hy
    obtain ⟨h, eh, hat⟩ := hh.get ea
    obtain ⟨_, g1, g2⟩ := ok.hk h (List.mem_of_getElem? eh)
    exact ⟨_, rfl, _, rfl, a, h, sa, ns, rfl, hat.same (s04.trans s5), sqs.same (s04.trans s5), g1, g2, fun H6 s6 => ⟨s5.trans s6, _, rfl⟩⟩
  rintro σ H5 ⟨s5, z, rfl⟩
  have s05 := s04.trans s5
  have lh : hs.length = (as.map V.ref).length := by rw [List.length_map, hh.1]
  refine ⟨_, rfl, sa, _, rfl, (sqs.same s05).imp SqL.of SqT.of, CS, .type "type", .int 6, u6, rfl, R.cr, v6, _, _, rfl, rfl, false, congrArg V.bl (decide_eq_false (by rw [List.length_map]; omega)), iteF ?_⟩
  refine ⟨_, rfl, ha, _, rfl, (sqh.same s05).imp SqL.of SqT.of, CS, .type "type", .int 40, u40, rfl, R.cr, v40, _, _, rfl, rfl, decide (40 < hs.length), congrArg V.bl (decide_eq_decide.mpr (by rw [lh]; omega)), ?_⟩
  by_cases l40 : 40 < hs.length
  · rw [decide_eq_true l40]
    refine iteT ⟨CS, .type "type", .int 40, u40, rfl, R.cr, v40, ?_⟩
    show rsK CM ["what", "most"] (fun cls d _ H' => E cls d H') [some (V.ref x), some (V.ref sa), some (V.ref ha), z, none] [V.str "hands", .int 40] H5
    exact rs_of (vs := [V.str "hands", .int 40]) rfl (by show 2 ≤ 1000; decide) fun d H' t => qe l40 d H' (t.from s05)
  rw [decide_eq_false l40]
  refine iteF ?_
  have fin := qk (by omega)
  have x5 := s05 _ _ hx
  have sq5 := sqs.same s05
  have sh5 := sqh.same s05
  dsimp only [tNext]
  refine fld_tupZ (i := 1) rfl rfl (s05 _ _ sqs0) fun ps H6 s6 hps => ⟨CS, dx, [], s6 _ _ x5, R.cl, R.nS, (by show 0 < 1000; decide), ?_⟩
  have x6 := s6 _ _ x5
  have k7 : Keep x H6 (upd H6 x (.ins CS dx (fs1 ps))) := Keep.upd
  have x7 : upd H6 x (.ins CS dx (fs1 ps)) x = some (.ins CS dx (fs1 ps)) := upd_same
  have sh7 := sqa_keep (sh5.same s6) x6 k7
  have hps7 := hps.keep (hps.ne x6) k7
  dsimp only
  refine fld_tup (i := 2) rfl rfl sh7 fun ph H8 s8 hph => ⟨CS, dx, fs1 ps, s8 _ _ x7, R.cl, R.nH, (by show 1 < 1000; decide), ?_⟩
  have x8 := s8 _ _ x7
  have kH6 : Keep x H H6 := Same.keep (s05.trans s6)
  have kH8 : Keep x H H8 := (kH6.trans k7).trans (Same.keep s8)
  have p8 : ∀ {p : Addr} {xs : List V}, H8 p = some (.tup xs) → p ≠ x := fun h => ne_of h x8 (fun z => nomatch z)
  have k9 : Keep x H8 (upd H8 x (.ins CS dx (fs2 ps ph))) := Keep.upd
  have x9 : upd H8 x (.ins CS dx (fs2 ps ph)) x = some (.ins CS dx (fs2 ps ph)) := upd_same
  have hps8 := hps7.same s8
  have hps9 := hps8.keep (hps8.ne x8) k9
  have hph9 := k9 _ _ (p8 hph) hph
  have kH9 := kH8.trans k9
  have hh9 := hh.keep hx kH9
  have sa9 := sqa_keep sqs hx kH9
  have sh9 := sqa_keep sqh hx kH9
  dsimp only
  refine ⟨_, rfl, sa, rfl, ?_⟩
  refine lc_seqA sa9 fun D hD => ⟨fun i H3 => Same (upd H8 x (.ins CS dx (fs2 ps ph))) H3 ∧ SixL C H3 D ((ns.take i).map (net hs)), ⟨upd_new hD, [], upd_same, .nil⟩, fun i H3 _ z => ?_, ?_, ?_⟩
  · obtain ⟨o, e⟩ := sa9.there
    exact (z.1 _ _ e).trans e.symm
  · rintro i y H3 hy ⟨s3, sl3⟩
    obtain ⟨n, en, rfl⟩ := map_at hy
    have li := (List.getElem?_eq_some_iff.mp en).1
    refine ⟨rfl, yes_of ⟨_, rfl, _, rfl, ha, as, hs, n, rfl, sh9.same s3, hh9.same s3, fun h m => (ok.hk h m).1, l100, fun p H4 s4 np hp => ?_⟩⟩
    obtain ⟨qs, hd, al⟩ := sl3.same s4
    refine ⟨_, hd, ?_, same_upd hD (s3.trans s4), qs ++ [p], by rw [upd_same, List.map_append]; rfl, ?_⟩
    · rw [List.length_map, al.1, List.length_map, List.length_take]; omega
    · rw [take_more en, List.map_append]
      refine All2.snoc (al.mono fun u v z => ?_) ?_
      · obtain ⟨dy, z⟩ := z
        exact ⟨dy, by rw [upd_ne (ne_of z hd (fun z => nomatch z))]; exact z⟩
      · obtain ⟨dy, z⟩ := hp
        exact ⟨dy, by rw [upd_ne (ne_of z hd (fun z => nomatch z))]; exact z⟩
  rintro H3 ⟨s3, qs, hd, al⟩
  rw [List.length_map, List.take_length] at al
  refine ⟨D, _, rfl, .inl ⟨SqL.of hd, fun pn npn => ?_⟩⟩
  have sn := upd_new (o := .tup (qs.map V.ref)) npn
  have x10 := sn _ _ (s3 _ _ x9)
  have hpn : upd H3 pn (.tup (qs.map V.ref)) pn = some (.tup (qs.map V.ref)) := upd_same
  refine ⟨_, rfl, x, CS, dx, fs2 ps ph, rfl, x10, R.cl, R.nN, (by show 2 < 1000; decide), ?_⟩
  have kf : Keep x (upd H8 x (.ins CS dx (fs2 ps ph))) (upd (upd H3 pn (.tup (qs.map V.ref))) x (.ins CS dx (fsS ps ph pn))) := (Same.keep (s3.trans sn)).trans Keep.upd
  refine fin _ (kH9.trans kf) ⟨dx, ps, ph, pn, as, qs, upd_same, hps9.keep (hps8.ne x8) kf, kf _ _ (p8 hph) hph9, hh.keep hx (kH9.trans kf), Keep.upd (p := x) _ _ (ne_of hpn x10 (fun z => nomatch z)) hpn, (al.mono fun u v z => z.same sn).mono fun u v z => ?_⟩
  have ux : u ≠ x := by
    rintro rfl
    obtain ⟨dy, z⟩ := z
    rw [x10] at z
    injection z with z
    injection z with _ _ z
    have b := fsR_top (rT v 6) (rB v 6)
    rw [← z] at b
    unfold fs2 fs1 at b
    rw [lookup_putF, if_neg (by decide +kernel), lookup_putF, if_neg (by decide +kernel)] at b
    cases b
  obtain ⟨dy, z⟩ := z
  exact ⟨dy, Keep.upd (p := x) _ _ ux z⟩
end
end K5

/-! k05: len(o), o != y of own classes. -/
namespace K18
open PySem PySem.Spec PyProof.Rows L2 LamX K1

section
open PySem.W
variable {prog : Program} {w : World} {A : Around} {E : Value → Shared → Prop} {s : Shared} {K : Frag} {x C L f : Addr} {h0 : Heap} {m : Str → Option Value} {ox : Obj} {od : Option Obj} {b tb : Value}
/-- a builtin slot found by the class, called on its instance -/
theorem ifBound_B {M : Model} {name : Str} {id : String} {args : List Value} {Q : Option Value → Shared → Prop} (X : K.In s.heap) (I : InstAt s.heap x ox C od) (hs : findIn K (.ref C) name = some (some (.builtin id))) (hb : ∀ self, bindSpecial (.builtin id) self = pure (.builtin id, [self]))
    (h : wpAny M A (call (.builtin id) (.ref x :: args)) (fun v => Q (some v)) E s) : wpAny M A (callSpecialIfBound? (.ref x) name args) Q E s := by
  simp only [callSpecialIfBound?, bindSpecialIfBound?]
  refine wpAny_holding (wpAny_bind (wpAny_bind (wpAny_bind (I.type.here ((looks_findIn X hs).here ?_)))))
  simp only [hb]
  refine wpAny_bind (wpAny_askSetting (wpAny_ite ?_))
  have fin : wpAny M A (call (.builtin id) ([.ref x] ++ args) >>= fun v => pure (some v)) Q E s := wpAny_bind (wpAny_mono h (fun v s' z => wpAny_pure z) fun _ _ z => z)
  split
  · exact wpAny_bind (wpAny_pure (wpAny_pure (by exact fin)))
  · exact wpAny_tryCatch (wpAny_bind (wpAny_pure (wpAny_pure (by exact fin))))
theorem ne_own {Q : Value → Shared → Prop} (hu : A.units + 1 < cLine) (F : Fr h0 L s.heap m) (X0 : K.In h0) (I : InstAt s.heap x ox C od) (hb : Looks (model prog w) s.heap (typeOf b) tb) (hn : notFirst K C tb = true)
    (hne : findIn K (.ref C) "__ne__" = some (some (.builtin "object.__ne__"))) (hob : subIn K (.ref C) (.type "object") = some true) (hs : findIn K (.ref C) "__eq__" = some (some (.ref f))) (hf : isFn K (.ref f) = true)
    (h : wpAny (model prog w) A.in1 (call (.ref f) [.ref x, b]) (fun v s' => ∃ k, v = .bool k ∧ Q (.bool (!k)) s') E s) : wpAny (model prog w) A (richCompare .NotEq (.ref x) b) Q E s := by
  have X := X0.keeps F.keep
  have one : wpAny (model prog w) A (tryCompare (.ref x) (cmpInfo .NotEq).2.1 b) (fun r s' => ∃ v, r = some v ∧ Q v s') E s := by
    unfold tryCompare
    refine wpAny_bind (ifBound_B (id := "object.__ne__") X I hne PySem.F.slot_tuple_iterator_ne.bind ?_)
    refine wpAny_call (codeAny_call_builtin PySem.F.slot_tuple_iterator_ne.plain PySem.F.cmpEntry_ne (check_slot PySem.F.cmpKind_ne PySem.F.cmpSplit_ne ?_ (PySem.F.cmpArgs_ne _ _) ?_))
    · exact I.type.andThen (looks_subIn X hob)
    · unfold Builtin.«object.__ne__»
      refine wpAny_bind (wpAny_of_eq (a := ((Value.ref x : Value), [b])) (by first | rfl | (simp only [slotArgs]; rfl)) ?_)
      refine wpAny_bind (wpAny_cRoomFor hu ?_)
      refine wpAny_bind (ifBound_K X I hs hf (wpAny_mono h (fun v s' hv => ?_) fun _ _ z => z))
      obtain ⟨k, rfl, q⟩ := hv
      refine wpAny_bind (m := truthy (.bool k)) (wpAny_truthy_bool ?_)
      first | exact wpAny_pure (wpAny_pure ⟨_, rfl, q⟩) | exact wpAny_pure (wpAny_pure (wpAny_pure ⟨_, rfl, q⟩))
  unfold richCompare
  simp only [oneThing_ref]
  refine wpAny_holding (wpAny_bind (wpAny_cRoomFor (by omega) ?_))
  refine wpAny_bind (I.type.here (wpAny_bind (hb.here ?_)))
  split
  · rename_i q
    have e : subIn K tb (.ref C) = some false := by
      rcases Bool.or_eq_true_iff.mp hn with e | e
      · rw [beq_iff_eq.mp e] at q; simp at q
      · exact beq_iff_eq.mp e
    refine wpAny_bind ((looks_subIn X e).here ?_)
    simp only [Bool.false_eq_true, if_false]
    exact wpAny_bind (wpAny_mono one (fun r s' ⟨v, z, hq⟩ => by subst z; exact wpAny_pure hq) fun _ _ z => z)
  · refine wpAny_bind (wpAny_pure ?_)
    simp only [Bool.false_eq_true, if_false]
    exact wpAny_bind (wpAny_mono one (fun r s' ⟨v, z, hq⟩ => by subst z; exact wpAny_pure hq) fun _ _ z => z)
end
section
variable {X : Cx} {CX : CXT} {k : Nat} {C f : Addr} {fd : FuncData} {ps : List Str} {sp : Sp} {E : XK}
/-- x != y by the class's == -/
def rNeO (K : PySem.W.Frag) (C : Addr) (sp : Sp) (E : XK) : R2 := fun x y H Q => ∃ a dx fs t, x = .ref a ∧ H a = some (.ins C dx fs) ∧ TyOf K H y t ∧ PySem.W.notFirst K C t = true ∧ sp [x, y] H (fun v H' => ∃ k, v = .bl k ∧ Q (.bl (!k)) H') E
theorem op_neO (M : OwnM X.K C "__eq__" f) (hne : PySem.W.findIn X.K (.ref C) "__ne__" = some (some (.builtin "object.__ne__"))) (hob : PySem.W.subIn X.K (.ref C) (.type "object") = some true)
    (F : FnOk X.prog X.w X.K X.mg X.base CX k f fd ps sp) (hr : Room (k + 1) X.A) (hb : Binds X.K fd ps []) (hx : Passes CX X.nox E) : OpR X (compareOp .NotEq) (rNeO X.K C sp E) := by
  intro pins s σ H x y v u Q I rx ry h
  obtain ⟨a, dx, fs, t, rfl, ha, ty, hn, hs⟩ := h
  obtain rfl : v = Value.ref a := rx
  obtain ⟨mA, O, _⟩ := ins_get I.hok ha
  obtain ⟨od, J, _⟩ := O.look
  obtain ⟨m, hF⟩ := I.fr
  have hl := F.len _ _ _ _ hs
  have un := hr.un
  refine PySem.W.cmp_ofNotEq (ne_own (by omega) hF I.ok.mod.kin J (ty_look I ry ty) hn hne hob M.at_ M.fn ?_)
  refine wpAny_call (codeAny_mono (F.run X.A.in1 X.stack s H ⟨[.ref a, u], []⟩ [.ref a, u] [.ref a, y] _ E hr.in1 I.env0.in1 (by
    have z := hb s [.ref a, u] I.kIn (by simpa using hl)
    simpa using z) (.cons rfl (.cons ry .nil)) hs) fun r s' hq => ?_)
  cases r with
  | error e => exact False.elim (hx pins σ H s e s' (I.wish _) hq)
  | ok fl =>
    cases fl with
    | ret u =>
      obtain ⟨v, H2, I2, rv, k, rfl, q⟩ := I.after hq
      cases (show u = Value.bool k from rv)
      exact ⟨k, rfl, .bl (!k), H2, I2, rfl, q⟩
    | next => exact False.elim hq
    | brk => exact False.elim hq
    | cont => exact False.elim hq
/-- len(x) -/
theorem call_lenO (M : OwnM X.K C "__len__" f) (F : FnOk X.prog X.w X.K X.mg X.base CX k f fd ps sp) (hr : Room (k + 1) X.A) (hb : Binds X.K fd ps []) (hx : Passes CX X.nox E) :
    CallR X (.builtin "len") (fun xs H Q => ∃ a dx fs, xs = [.ref a] ∧ H a = some (.ins C dx fs) ∧ sp [.ref a] H (fun v H' => ∃ n : Int, v = .int n ∧ 0 ≤ n ∧ n < 2 ^ 63 ∧ Q (.int n) H') E) := by
  intro pins s σ H xs us Q I r h
  obtain ⟨a, dx, fs, rfl, ha, hs⟩ := h
  obtain ⟨u, rfl, ru⟩ := vals1 r
  obtain rfl : u = Value.ref a := ru
  obtain ⟨mA, O, _⟩ := ins_get I.hok ha
  obtain ⟨od, J, _⟩ := O.look
  obtain ⟨m, hF⟩ := I.fr
  have hl := F.len _ _ _ _ hs
  refine PySem.W.len_K hF I.ok.mod.kin J M.at_ M.fn (wpAny_call (codeAny_mono (F.run X.A.in1 X.stack s H ⟨[.ref a], []⟩ [.ref a] [.ref a] _ E hr.in1 I.env0.in1 (by
    have z := hb s [.ref a] I.kIn (by simpa using hl)
    simpa using z) (.cons rfl .nil) hs) fun r s' hq => ?_))
  cases r with
  | error e => exact False.elim (hx pins σ H s e s' (I.wish _) hq)
  | ok fl =>
    cases fl with
    | ret u =>
      obtain ⟨v, H2, I2, rv, n, rfl, n0, n1, q⟩ := I.after hq
      obtain ⟨tk, rfl⟩ := rv
      exact ⟨⟨n0, n1⟩, .int n, H2, I2.tok _, ⟨_, rfl⟩, q⟩
    | next => exact False.elim hq
    | brk => exact False.elim hq
    | cont => exact False.elim hq
/-- x[y], by the class's __getitem__ -/
def rItO (C : Addr) (sp : Sp) (E : XK) : R2 := fun x y H Q => ∃ a dx fs, x = .ref a ∧ H a = some (.ins C dx fs) ∧ sp [x, y] H Q E
theorem pe_itemO {a b : Expr} {pos : Pos} {ta tb : TE} (M : OwnM X.K C "__getitem__" f) (hfi : PySem.W.fnIn X.K f = true) (F : FnOk X.prog X.w X.K X.mg X.base CX k f fd ps sp) (hr : Room (k + 1) X.A) (hb : Binds X.K fd ps []) (hx : Passes CX X.nox E)
    (he : PE X a ta) (hi : PE X b tb) (hsl : ∀ o i, subscripted b true o i = runValue (.builtin "lifetime.subscript" ⟨[o, i], []⟩) := by intro _ _; rfl) : PE X (.Subscript a b pos) (tOp (rItO C sp E) ta tb) := by
  refine ⟨fun pins s σ H Q I h => ?_⟩
  refine Subscript_ (binT he hi I h fun v u s2 x y H2 I2 rx ry q => ?_)
  obtain ⟨p, dx, fs, rfl, hp, hs⟩ := q
  obtain rfl : v = Value.ref p := rx
  obtain ⟨mA, O, _⟩ := ins_get I2.hok hp
  obtain ⟨od, J, _⟩ := O.look
  obtain ⟨m, hF⟩ := I2.fr
  have hl := F.len _ _ _ _ hs
  refine PySem.W.sub_K hF I2.ok.mod.kin J M.at_ hfi M.fn ?_ (hsl _ _)
  refine wpAny_call (codeAny_mono (F.run X.A.in1 X.stack s2 H2 ⟨[.ref p, u], []⟩ [.ref p, u] [.ref p, y] _ E hr.in1 I2.env0.in1 (by
    have z := hb s2 [.ref p, u] I2.kIn (by simpa using hl)
    simpa using z) (.cons rfl (.cons ry .nil)) hs) fun r s' hq => ?_)
  cases r with
  | error e => exact False.elim (hx pins σ H2 s2 e s' (I2.wish _) hq)
  | ok fl =>
    cases fl with
    | ret u => exact I2.after hq
    | next => exact False.elim hq
    | brk => exact False.elim hq
    | cont => exact False.elim hq
end
/-- at it an iterator over the tuple at t, next place i; .. used up -/
def ItT (t it : Addr) (i : Nat) : HO := .ext fun h => h.IsTupleIter it t i
def ItX (it : Addr) : HO := .ext fun h => ∃ o, h.get? it = some o
theorem itT_ok {P : Program} {w : World} {H : Hp} {h : Heap} {t it : Addr} {i : Nat} (e : h.IsTupleIter it t i) : ObjOk P w H h it (ItT t it i) :=
  ⟨e, let ⟨o, a, _⟩ := e; ⟨o, a⟩, fun h1 h2 ⟨o, a, r⟩ k => ⟨o, k _ a, r⟩⟩
theorem itX_ok {P : Program} {w : World} {H : Hp} {h : Heap} {it : Addr} (e : ∃ o, h.get? it = some o) : ObjOk P w H h it (ItX it) :=
  ⟨e, e, fun h1 h2 ⟨o, a⟩ k => ⟨o, k _ a⟩⟩
section
variable {prog : Program} {w : World} {A : Around} {E : Value → Shared → Prop} {s : Shared} {it t : Addr} {i : Nat} {items : Array Value}
theorem call_iterT0 {Q : Value → Shared → Prop} (ht : s.heap.IsTuple t items) (h : Q (.ref s.heap.objs.size) { s with heap := s.heap.push { cls := .type "tuple_iterator", data := .fields #[.ref t, .int 0 0] } }) :
    wpAny (model prog w) A (call (.builtin "iter") [.ref t]) Q E s := by
  refine Calls.call_function_entry (by decide +kernel) (by decide +kernel) PySem.W.kdk_entry_iter (PySem.W.kdk_args_iter _) ?_
  unfold Builtin.«iter»
  refine wpAny_bind (wpAny_of_eq (a := [Value.ref t]) (by first | rfl | kernel_rfl!) ?_)
  show wpAny _ _ (pyIter (.ref t) >>= _) _ _ _
  exact wpAny_bind (wpAny_pyIter_tuple ht (wpAny_pure ⟨_, rfl, h⟩))
theorem stop_made {α : Type} {Q : α → Shared → Prop} (hh : A.handled = none) (h : ∀ (h' : Heap) (e : Addr) (o : Obj), (∀ b o, s.heap.get? b = some o → h'.get? b = some o) → h'.get? e = some o → o.cls = .type "StopIteration" → E (.ref e) { s with heap := h' }) :
    wpAny (model prog w) A (Builtin.SmallTypes.stopIteration : Sem α) Q E s := by
  unfold Builtin.SmallTypes.stopIteration newExc newTuple
  refine wpAny_bind (wpAny_bind (wpAny_newObj_type ?_ (by size_fits)))
  refine wpAny_bind (wpAny_of_eq (a := Value.none) (by first | rfl | (simp only [firstArgMember]; rfl)) (wpAny_newObj_type ?_ (by size_fits)))
  unfold raiseNew
  refine wpAny_bind (wpAny_handled ?_)
  rw [hh]
  exact wpAny_bind (wpAny_pure (wpAny_throw (h _ _ _ (fun b o e => Heap.get?_push_of_some _ (Heap.get?_push_of_some _ e)) (Heap.get?_push_size _ rfl) rfl)))
theorem tnext_end {Q : Option Value → Shared → Prop} (hh : A.handled = none) (hit : s.heap.IsTupleIter it t i) (ht : s.heap.IsTuple t items) (hx : items[i]? = none)
    (hQ : ∀ h', (∃ o, h'.get? it = some o) → (∀ b o, b ≠ it → s.heap.get? b = some o → h'.get? b = some o) → Q none { s with heap := h' }) : wpAny (model prog w) A (pyNext (.ref it)) Q E s := by
  have T := hit.typeIs
  obtain ⟨o, ho, hc, hd⟩ := hit
  obtain ⟨ol, hol, _, nl, hdl⟩ := ht
  unfold pyNext
  refine wpAny_bind (wpAny_attempt (wpAny_callSpecial?_slot (name := Str.ofString "__next__") T PySem.F.slot_tuple_iterator_next (wpAny_call_entry PySem.F.slot_tuple_iterator_next T PySem.F.entry_tuple_iterator_next ?_ (PySem.F.args_tuple_iterator_next_1 _))))
  show wpAny _ _ (field (.ref it) 0 >>= _) _ _ s
  refine wpAny_bind (wpAny_field ho hd (x := .ref t) rfl (wpAny_ite_split (fun z => absurd z Bool.false_ne_true) fun _ => ?_))
  refine wpAny_bind (wpAny_field ho hd (x := .int i 0) rfl (wpAny_bind (wpAny_seqItems hol hdl ?_)))
  simp only [Int.toNat_natCast, hx]
  refine wpAny_bind (wpAny_rule (wpAny_bind (wpAny_setField ho hd (by simp) ?_)))
  refine stop_made (by exact hh) fun h' e oe k he ec => ?_
  refine wpAny_bind (wpAny_isInstance (T := "StopIteration") (b := true) ⟨_, he, ec⟩ isSubtype_stop (wpAny_pure (hQ h' ⟨_, k _ _ (Heap.get?_update_self _ ho (by first | rfl | (rw [Obj.isFreed_of_fields (Obj.data_mapFields hd _)])))⟩ fun b u hb eu => k b u ?_)))
  exact (Heap.get?_update_other s.heap _ (Ne.symm hb)).trans eu
end

section
variable {X : Cx} {pins : List (Addr × Obj)} {σ : L2.St} {H : Hp} {s : Shared} {it t q : Addr} {i : Nat} {xs : List V} {A1 : Around}
/-- iter(t), t a tuple -/
def rIterT (K : PySem.W.Frag) : List V → Hp → VK → Prop := fun xs H Q => ∃ (t : Addr) (zs : List V), xs = [.ref t] ∧ SqT K H t zs ∧ ∀ it, H it = none → Q (.ref it) (upd H it (ItT t it 0))
theorem call_iterT {K : PySem.W.Frag} (hK : X.K = K) : CallR X (.builtin "iter") (rIterT K) := by
  subst hK
  intro pins s σ H xs us Q I r h
  obtain ⟨t, zs, rfl, hq, k⟩ := h
  obtain rfl := Vals.ref1 r
  obtain ⟨its, rv, p, hz⟩ := I.tuple hq
  exact call_iterT0 p ⟨.ref s.heap.objs.size, _, I.laid (t' := s.toks) (fun b u e => Heap.get?_push_of_some _ e) (Nat.le_refl _) (itT_ok ⟨_, Heap.get?_push_size _ rfl, rfl, rfl⟩), rfl, k _ I.fresh⟩
end
end K18

/-! k05: zip of a tuple, or of an own iterable that walks a tuple, with a list. -/
namespace K5
open PySem PySem.Spec PyProof.Rows L2 LamX K1 K18

def zHp (h : Heap) (u v : Value) : Heap :=
  ((h.push { cls := .type "tuple", data := .seq #[u, v] }).push { cls := .type "tuple", data := .seq #[.none, .none] }).push { cls := .type "zip", data := .fields #[.none, .bool false, .bool false, .ref h.objs.size, .ref (h.objs.size + 1)] }
theorem zHp_at {h : Heap} {u v : Value} : IsZip (zHp h u v) (h.objs.size + 2) h.objs.size (h.objs.size + 1) .none ∧ IsPair (zHp h u v) h.objs.size u v ∧ IsPair (zHp h u v) (h.objs.size + 1) .none .none ∧ ∀ c o, h.get? c = some o → (zHp h u v).get? c = some o := by
  have g1 : IsPair (h.push { cls := .type "tuple", data := .seq #[u, v] }) h.objs.size u v := Heap.get?_push_size _ rfl
  have z1 : (h.push { cls := .type "tuple", data := .seq #[u, v] }).objs.size = h.objs.size + 1 := Heap.size_push ..
  have g2 := Heap.get?_push_size (h.push { cls := .type "tuple", data := .seq #[u, v] }) (o := { cls := .type "tuple", data := .seq #[.none, .none] }) rfl
  rw [z1] at g2
  have z2 : ((h.push { cls := .type "tuple", data := .seq #[u, v] }).push { cls := .type "tuple", data := .seq #[.none, .none] }).objs.size = h.objs.size + 2 := by rw [Heap.size_push, z1]
  have g3 := Heap.get?_push_size ((h.push { cls := .type "tuple", data := .seq #[u, v] }).push { cls := .type "tuple", data := .seq #[.none, .none] }) (o := { cls := .type "zip", data := .fields #[.none, .bool false, .bool false, .ref h.objs.size, .ref (h.objs.size + 1)] }) rfl
  rw [z2] at g3
  exact ⟨g3, Heap.get?_push_of_some _ (Heap.get?_push_of_some _ g1), Heap.get?_push_of_some _ g2, fun c o e => Heap.get?_push_of_some _ (Heap.get?_push_of_some _ (Heap.get?_push_of_some _ e))⟩
section
variable {prog : Program} {w : World} {A : Around} {E : Value → Shared → Prop} {s : Shared}
theorem zip_made {u v : Value} {Q : Value → Shared → Prop} (k : wpAny (model prog w) A (pyIter u) (fun x s1 => wpAny (model prog w) A (pyIter v) (fun y s2 => Q (.ref (s2.heap.objs.size + 2)) { s2 with heap := zHp s2.heap x y }) E s1) E s) :
    wpAny (model prog w) A (Builtin.«zip.__new__» ⟨[.type "zip", u, v], []⟩) (fun fin s' => ∃ r, fin = .done (.ret r) ∧ Q r s') E s := by
  have hsub := sub_zip
  obtain ⟨hp, g, d, tk, os⟩ := s
  have m1 : ∀ {Q' : Value → Shared → Prop}, (∀ x s1, wpAny (model prog w) A (pyIter v) (fun y s2 => Q (.ref (s2.heap.objs.size + 2)) { s2 with heap := zHp s2.heap x y }) E s1 → Q' x s1) → wpAny (model prog w) A (pyIter u) Q' E ⟨hp, g, d, tk, os⟩ := fun h => wpAny_mono k h fun _ _ z => z
  wp_walk using m1
  rintro x ⟨hp1, g1, d1, tk1, os1⟩ k1
  have m2 : ∀ {Q' : Value → Shared → Prop}, (∀ y s2, Q (.ref (s2.heap.objs.size + 2)) { s2 with heap := zHp s2.heap x y } → Q' y s2) → wpAny (model prog w) A (pyIter v) Q' E ⟨hp1, g1, d1, tk1, os1⟩ := fun h => wpAny_mono k1 h fun _ _ z => z
  wp_walk using m2
  rintro y ⟨hp2, g2, d2, tk2, os2⟩ k2
  wp_walk
  have z1 : (hp2.push { cls := .type "tuple", data := .seq #[x, y] }).objs.size = hp2.objs.size + 1 := Heap.size_push ..
  have z2 : ((hp2.push { cls := .type "tuple", data := .seq #[x, y] }).push { cls := .type "tuple", data := .seq #[.none, .none] }).objs.size = hp2.objs.size + 2 := by rw [Heap.size_push, z1]
  show ∃ r, Fin.done (Flow.ret (Value.ref ((hp2.push { cls := .type "tuple", data := .seq #[x, y] }).push { cls := .type "tuple", data := .seq #[.none, .none] }).objs.size)) = Fin.done (Flow.ret r) ∧
    Q r ⟨((hp2.push { cls := .type "tuple", data := .seq #[x, y] }).push { cls := .type "tuple", data := .seq #[.none, .none] }).push { cls := .type "zip", data := .fields #[.none, .bool false, .bool false, .ref hp2.objs.size, .ref (hp2.push { cls := .type "tuple", data := .seq #[x, y] }).objs.size] }, g2, d2, tk2, os2⟩
  rw [z2, z1]
  exact ⟨_, rfl, k2⟩
/-- zip(u, v): both are asked for their iterators -/
theorem zip_call {u v : Value} {Q : Value → Shared → Prop} (k : wpAny (model prog w) A.in1.in1 (pyIter u) (fun x s1 => wpAny (model prog w) A.in1.in1 (pyIter v) (fun y s2 => Q (.ref (s2.heap.objs.size + 2)) { s2 with heap := zHp s2.heap x y }) E s1) E s) :
    wpAny (model prog w) A (call (.type "zip") [u, v]) Q E s := by
  refine callType_codes (Q₁ := fun o s1 => s1.TypeIs o "zip" ∧ Q o s1) F.called_zip (F.typeCall_zip_2 u v) F.entry_object_init ?_ fun o s1 h => ⟨h.1, F.args_object_init_3 o u v, ?_⟩
  · refine codeAny_call_builtin (by decide +kernel) F.entry_zip_new (wpAny_of_eq (F.newCall_zip_2 u v) ?_)
    refine wpAny_mono (zip_made (Q := fun r s' => s'.TypeIs r "zip" ∧ Q r s') (wpAny_mono k (fun x s1 h1 => wpAny_mono h1 (fun y s2 h2 => ⟨⟨_, zHp_at.1, rfl⟩, h2⟩) fun _ _ z => z) fun _ _ z => z)) (fun fin s' h => ?_) fun _ _ z => z
    obtain ⟨r, rfl, h1, h2⟩ := h
    exact ⟨h1, h2⟩
  · have g := object_init_meets (rest := [u, v]) (self := o) F.called_zip.init.lookup F.called_zip.made (by decide) prog w A.in1 (wants (fun r s2 => r = .none ∧ Q o s2) E) s1 ⟨h.1, rfl, h.2⟩
    exact g
/-- one more pair -/
theorem zipM_item {c I O i1 i2 t b : Addr} {k : Nat} {xs ys : Array Value} {x y u v : Value} {Q : Value → Shared → Prop} (D : ZipApart c I O i1 i2 t b) (hc : IsZip s.heap c I O .none) (hI : IsPair s.heap I (.ref i1) (.ref i2)) (hO : IsPair s.heap O u v)
    (h1 : s.heap.IsTupleIter i1 t k) (h2 : s.heap.IsListIter i2 b k) (ht : s.heap.IsTuple t xs) (hb : s.heap.IsList b ys) (hx : xs[k]? = some x) (hy : ys[k]? = some y)
    (q : ∀ g, IsZip g c I O (rawInt s.heap.objs.size) → IsPair g O x y → g.IsTupleIter i1 t (k + 1) → g.IsListIter i2 b (k + 1) → IsPair g s.heap.objs.size x y →
      (∀ d o, d ≠ c → d ≠ O → d ≠ i1 → d ≠ i2 → s.heap.get? d = some o → g.get? d = some o) → Q (.ref s.heap.objs.size) { s with heap := g }) :
    wpAny (model prog w) A (Builtin.«zip.__next__» ⟨[.ref c], []⟩) (fun fin s' => ∃ r, fin = .done (.ret r) ∧ Q r s') E s := by
  show wpAny _ _ (field (.ref c) 2 >>= _) _ _ _
  refine wpAny_bind (wpAny_field hc rfl (x := .bool false) rfl ?_)
  show wpAny _ _ (field (.ref c) 3 >>= _) _ _ _
  refine wpAny_bind (wpAny_field hc rfl (x := .ref I) rfl (wpAny_bind (wpAny_seqItems hI rfl ?_)))
  show wpAny _ _ (Builtin.SmallTypes.ownedTupleIsFree (.ref c) >>= _) _ _ _
  refine wpAny_bind ?_; unfold Builtin.SmallTypes.ownedTupleIsFree
  refine wpAny_bind (wpAny_field hc rfl (x := .none) rfl (wpAny_pure ?_)); simp only [if_true]
  refine wpAny_bind (wpAny_rule (wpAny_bind (wpAny_field hc rfl (x := .ref O) rfl (wpAny_bind (wpAny_setField_rec hc (by simp) fun g1 c1 e1 => ?_)))))
  replace c1 : IsZip g1 c I O .ellipsis := c1
  refine wpAny_bind ?_; simp only [List.zipIdx_nil, List.zipIdx_cons, List.forIn_nil, List.forIn_cons]
  refine wpAny_bind (wpAny_bind (wpAny_onRaise ?_))
  show wpAny _ _ (Builtin.SmallTypes.nextOf (.ref i1) >>= _) _ _ _
  refine wpAny_bind (RZ.nextOf_tuple_item (h1.extBut e1.extBut D.i1z) (ht.extBut e1.extBut D.l1z) hx fun g2 f1 e2 => wpAny_pure ?_)
  have o2 : IsPair g2 O u v := e2.extBut _ _ D.TOi1 (e1.extBut _ _ D.TOz hO)
  refine wpAny_bind (wpAny_seqItems o2 rfl (wpAny_bind (wpAny_updateSeq_pair o2 fun g3 o3 e3 => ?_)))
  replace o3 : IsPair g3 O x v := o3
  refine wpAny_bind (wpAny_letGo (wpAny_pure (wpAny_bind (wpAny_bind (wpAny_onRaise ?_)))))
  show wpAny _ _ (Builtin.SmallTypes.nextOf (.ref i2) >>= _) _ _ _
  refine wpAny_bind (wpAny_nextOf_list_item (((h2.extBut e1.extBut D.i2z).extBut e2.extBut D.i12.symm).extBut e3.extBut D.TOi2.symm) (((hb.extBut e1.extBut D.l2z).extBut e2.extBut D.l2i1).extBut e3.extBut D.l2TO) hy fun g4 f2 e4 => wpAny_pure ?_)
  have o4 : IsPair g4 O x v := e4.extBut _ _ D.TOi2 o3
  refine wpAny_bind (wpAny_seqItems o4 rfl (wpAny_bind (wpAny_updateSeq_pair o4 fun g5 o5 e5 => ?_)))
  replace o5 : IsPair g5 O x y := o5
  refine wpAny_bind (wpAny_letGo (wpAny_pure (wpAny_pure (wpAny_bind (wpAny_seqItems o5 rfl (wpAny_bind (wpAny_newTuple ?_)))))))
  have n5 : g5.objs.size = s.heap.objs.size := by rw [e5.1, e4.1, e3.1, e2.1, e1.1]
  have c5 : IsZip g5 c I O .ellipsis := e5.extBut _ _ D.TOz.symm (e4.extBut _ _ D.i2z.symm (e3.extBut _ _ D.TOz.symm (e2.extBut _ _ D.i1z.symm c1)))
  have k5 : ∀ d o, d ≠ c → d ≠ O → d ≠ i1 → d ≠ i2 → s.heap.get? d = some o → g5.get? d = some o := fun d o a1 a2 a3 a4 e => e5.extBut _ _ a2 (e4.extBut _ _ a4 (e3.extBut _ _ a2 (e2.extBut _ _ a3 (e1.extBut _ _ a1 e))))
  have p1 : g5.IsTupleIter i1 t (k + 1) := ((f1.extBut e3.extBut D.TOi1.symm).extBut e4.extBut D.i12).extBut e5.extBut D.TOi1.symm
  have p2 : g5.IsListIter i2 b (k + 1) := f2.extBut e5.extBut D.TOi2.symm
  have cl : c < g5.objs.size := Heap.lt_size c5
  show wpAny _ _ (Builtin.SmallTypes.ownedTupleHandOut (.ref c) (.ref g5.objs.size) >>= _) _ _ _
  refine wpAny_bind ?_; unfold Builtin.SmallTypes.ownedTupleHandOut
  have c6 : IsZip (g5.push { cls := .type "tuple", data := .seq #[x, y] }) c I O .ellipsis := Heap.get?_push_of_some _ c5
  refine wpAny_bind (wpAny_setField_rec c6 (by simp) fun g7 c7 e7 => ?_)
  replace c7 : IsZip g7 c I O (rawInt g5.objs.size) := c7
  refine wpAny_setField_rec c7 (by simp) fun g8 c8 e8 => wpAny_pure ⟨_, rfl, ?_⟩
  replace c8 : IsZip g8 c I O (rawInt g5.objs.size) := c8
  have up : ∀ d o, d ≠ c → g5.get? d = some o → g8.get? d = some o := fun d o a e => e8.extBut _ _ a (e7.extBut _ _ a (Heap.get?_push_of_some _ e))
  have t8 : IsPair g8 g5.objs.size x y := e8.extBut _ _ (Nat.ne_of_gt cl) (e7.extBut _ _ (Nat.ne_of_gt cl) (Heap.get?_push_size _ rfl))
  rw [n5] at c8 t8
  show Q (.ref g5.objs.size) _
  rw [n5]
  exact q g8 c8 (up _ _ D.TOz o5) (p1.at fun o e => up _ o D.i1z e) (p2.at fun o e => up _ o D.i2z e) t8 fun d o a1 a2 a3 a4 e => up d o a1 (k5 d o a1 a2 a3 a4 e)
/-- no more pairs -/
theorem zipM_end {c I O i1 i2 t b : Addr} {k : Nat} {xs ys : Array Value} {u v : Value} {Q : Fin → Shared → Prop} (hh : A.handled = none) (D : ZipApart c I O i1 i2 t b) (hc : IsZip s.heap c I O .none) (hI : IsPair s.heap I (.ref i1) (.ref i2)) (hO : IsPair s.heap O u v)
    (h1 : s.heap.IsTupleIter i1 t k) (h2 : s.heap.IsListIter i2 b k) (ht : s.heap.IsTuple t xs) (hb : s.heap.IsList b ys) (no : xs[k]? = none ∨ ys[k]? = none)
    (q : ∀ g e, (∀ d o, d ≠ c → d ≠ O → d ≠ i1 → d ≠ i2 → s.heap.get? d = some o → g.get? d = some o) → (∃ o, g.get? e = some o ∧ o.cls = .type "StopIteration") → E (.ref e) { s with heap := g }) :
    wpAny (model prog w) A (Builtin.«zip.__next__» ⟨[.ref c], []⟩) Q E s := by
  show wpAny _ _ (field (.ref c) 2 >>= _) _ _ _
  refine wpAny_bind (wpAny_field hc rfl (x := .bool false) rfl ?_)
  show wpAny _ _ (field (.ref c) 3 >>= _) _ _ _
  refine wpAny_bind (wpAny_field hc rfl (x := .ref I) rfl (wpAny_bind (wpAny_seqItems hI rfl ?_)))
  show wpAny _ _ (Builtin.SmallTypes.ownedTupleIsFree (.ref c) >>= _) _ _ _
  refine wpAny_bind ?_; unfold Builtin.SmallTypes.ownedTupleIsFree
  refine wpAny_bind (wpAny_field hc rfl (x := .none) rfl (wpAny_pure ?_)); simp only [if_true]
  refine wpAny_bind (wpAny_rule (wpAny_bind (wpAny_field hc rfl (x := .ref O) rfl (wpAny_bind (wpAny_setField_rec hc (by simp) fun g1 c1 e1 => ?_)))))
  replace c1 : IsZip g1 c I O .ellipsis := c1
  refine wpAny_bind ?_; simp only [List.zipIdx_nil, List.zipIdx_cons, List.forIn_nil, List.forIn_cons]
  refine wpAny_bind (wpAny_bind (wpAny_onRaise ?_))
  show wpAny _ _ (Builtin.SmallTypes.nextOf (.ref i1) >>= _) _ _ _
  cases hx : xs[k]? with
  | none =>
    refine wpAny_bind (RZ.nextOf_tuple_end hh (h1.extBut e1.extBut D.i1z) (ht.extBut e1.extBut D.l1z) hx fun g2 e e2 ⟨oe, he, ce⟩ => ?_)
    have c2 : IsZip g2 c I O .ellipsis := e2 _ _ D.i1z.symm c1
    have ne : e ≠ c := fun z => by subst z; rw [c2] at he; cases he; simp at ce
    refine wpAny_setField_rec c2 (by simp) fun g3 _ e3 => q g3 e (fun d o a1 _ a3 _ z => e3.extBut _ _ a1 (e2 _ _ a3 (e1.extBut _ _ a1 z))) ⟨oe, e3.extBut _ _ ne he, ce⟩
  | some x =>
    have hy : ys[k]? = none := no.resolve_left fun z => by rw [hx] at z; cases z
    refine wpAny_bind (RZ.nextOf_tuple_item (h1.extBut e1.extBut D.i1z) (ht.extBut e1.extBut D.l1z) hx fun g2 f1 e2 => wpAny_pure ?_)
    have o2 : IsPair g2 O u v := e2.extBut _ _ D.TOi1 (e1.extBut _ _ D.TOz hO)
    refine wpAny_bind (wpAny_seqItems o2 rfl (wpAny_bind (wpAny_updateSeq_pair o2 fun g3 o3 e3 => ?_)))
    refine wpAny_bind (wpAny_letGo (wpAny_pure (wpAny_bind (wpAny_bind (wpAny_onRaise ?_)))))
    show wpAny _ _ (Builtin.SmallTypes.nextOf (.ref i2) >>= _) _ _ _
    refine wpAny_bind (wpAny_nextOf_list_end hh (((h2.extBut e1.extBut D.i2z).extBut e2.extBut D.i12.symm).extBut e3.extBut D.TOi2.symm) (((hb.extBut e1.extBut D.l2z).extBut e2.extBut D.l2i1).extBut e3.extBut D.l2TO) hy fun g4 e e4 ⟨oe, he, ce⟩ => ?_)
    have c4 : IsZip g4 c I O .ellipsis := e4 _ _ D.i2z.symm (e3.extBut _ _ D.TOz.symm (e2.extBut _ _ D.i1z.symm c1))
    have ne : e ≠ c := fun z => by subst z; rw [c4] at he; cases he; simp at ce
    refine wpAny_setField_rec c4 (by simp) fun g5 _ e5 => q g5 e (fun d o a1 a2 a3 a4 z => e5.extBut _ _ a1 (e4 _ _ a4 (e3.extBut _ _ a2 (e2.extBut _ _ a3 (e1.extBut _ _ a1 z))))) ⟨oe, e5.extBut _ _ ne he, ce⟩
end
end K5

/-! k05: loops over zip of a tuple, or of an own iterable that walks a tuple, with a list. -/
namespace K5
open PySem PySem.Spec PyProof.Rows L2 LamX K1 K18

/-- the tuple at t and the list at b as they stand at each turn -/
def ItzM (K : PySem.W.Frag) (t b : Addr) : It :=
  ⟨fun i H => ∃ (xs ys : List V) (x y : V), SqT K H t xs ∧ SqL K H b ys ∧ xs[i]? = some x ∧ ys[i]? = some y,
    fun i H v H' => ∃ T x y, v = .ref T ∧ H T = none ∧ H' = upd H T (.tup [x, y]) ∧ (∀ xs, SqT K H t xs → xs[i]? = some x) ∧ ∀ ys, SqL K H b ys → ys[i]? = some y,
    fun i H => ∃ xs ys : List V, SqT K H t xs ∧ SqL K H b ys ∧ (xs.length ≤ i ∨ ys.length ≤ i)⟩
theorem walk_zipM {K : PySem.W.Frag} {t b : Addr} {xs ys : List V} {n : Nat} (hn : n = min xs.length ys.length) : Walk (ItzM K t b) n (fun H => SqT K H t xs ∧ SqL K H b ys) (YPair (fun i => xs[i]?) (fun i => ys[i]?)) := by
  subst hn
  refine ⟨fun i _ hi q => ⟨xs, ys, xs[i]'(by omega), ys[i]'(by omega), q.1, q.2, List.getElem?_eq_getElem _, List.getElem?_eq_getElem _⟩, fun _ q => ⟨xs, ys, q.1, q.2, by omega⟩, fun i H v H' _ q y => ?_⟩
  obtain ⟨T, x, z, h1, h2, h3, h4, h5⟩ := y
  exact ⟨T, x, z, h1, h2, h3, h4 xs q.1, h5 ys q.2⟩
def ZSt (c I O i1 i2 t b : Addr) (i : Nat) (h : Heap) : Prop := IsZip h c I O .none ∧ IsPair h I (.ref i1) (.ref i2) ∧ (∃ x y, IsPair h O x y) ∧ h.IsTupleIter i1 t i ∧ h.IsListIter i2 b i
section
variable {prog : Program} {w : World} {A : Around} {E : Value → Shared → Prop} {s : Shared}
theorem nextM_item {c I O i1 i2 t b : Addr} {k : Nat} {xs ys : Array Value} {x y : Value} {Q : Option Value → Shared → Prop} (D : ZipApart c I O i1 i2 t b) (st : ZSt c I O i1 i2 t b k s.heap) (ht : s.heap.IsTuple t xs) (hb : s.heap.IsList b ys) (hx : xs[k]? = some x) (hy : ys[k]? = some y)
    (q : ∀ g, IsZip g c I O (rawInt s.heap.objs.size) → IsPair g O x y → g.IsTupleIter i1 t (k + 1) → g.IsListIter i2 b (k + 1) → IsPair g s.heap.objs.size x y →
      (∀ d o, d ≠ c → d ≠ O → d ≠ i1 → d ≠ i2 → s.heap.get? d = some o → g.get? d = some o) → Q (some (.ref s.heap.objs.size)) { s with heap := g }) :
    wpAny (model prog w) A (pyNext (.ref c)) Q E s := by
  obtain ⟨hc, hI, ⟨u, v, hO⟩, h1, h2⟩ := st
  have T : s.TypeIs (.ref c) "zip" := ⟨_, hc, rfl⟩
  unfold pyNext
  exact wpAny_bind (wpAny_attempt (wpAny_callSpecial?_slot (name := Str.ofString "__next__") T F.slot_zip_next (wpAny_call_entry F.slot_zip_next T F.entry_zip_next
    (zipM_item D hc hI hO h1 h2 ht hb hx hy fun g a1 a2 a3 a4 a5 a6 => wpAny_pure (q g a1 a2 a3 a4 a5 a6)) (F.args_zip_next_1 _))))
theorem nextM_end {c I O i1 i2 t b : Addr} {k : Nat} {xs ys : Array Value} {Q : Option Value → Shared → Prop} (hh : A.handled = none) (D : ZipApart c I O i1 i2 t b) (st : ZSt c I O i1 i2 t b k s.heap) (ht : s.heap.IsTuple t xs) (hb : s.heap.IsList b ys) (no : xs[k]? = none ∨ ys[k]? = none)
    (q : ∀ g, (∀ d o, d ≠ c → d ≠ O → d ≠ i1 → d ≠ i2 → s.heap.get? d = some o → g.get? d = some o) → Q none { s with heap := g }) : wpAny (model prog w) A (pyNext (.ref c)) Q E s := by
  obtain ⟨hc, hI, ⟨u, v, hO⟩, h1, h2⟩ := st
  have T : s.TypeIs (.ref c) "zip" := ⟨_, hc, rfl⟩
  unfold pyNext
  refine wpAny_bind (wpAny_attempt (wpAny_callSpecial?_slot (name := Str.ofString "__next__") T F.slot_zip_next (wpAny_call_entry F.slot_zip_next T F.entry_zip_next
    (zipM_end hh D hc hI hO h1 h2 ht hb no fun g e hk ⟨o, ho, co⟩ => ?_) (F.args_zip_next_1 _))))
  exact wpAny_bind (wpAny_isInstance (T := "StopIteration") (b := true) ⟨o, ho, co⟩ isSubtype_stop (wpAny_pure (q _ hk)))
end
theorem mem5 {c I O i1 i2 d : Addr} (h : d ∈ [c, I, O, i1, i2]) : d = c ∨ d = I ∨ d = O ∨ d = i1 ∨ d = i2 := by simpa using h
theorem turn_zipM {P : Program} {w : World} {K : PySem.W.Frag} {elts : List Expr} {kk : Nat} {tpos : Pos} {c I O i1 i2 t b : Addr} (D : ZipApart c I O i1 i2 t b) : Turn P w K (.Tuple elts kk tpos) (ItzM K t b) [c, I, O, i1, i2] c (ZSt c I O i1 i2 t b) where
  mem := by simp
  obj := fun i h ⟨a1, a2, ⟨x, y, a3⟩, ⟨o1, e1, _, d1⟩, ⟨o2, e2, _, d2⟩⟩ d hd => by
    rcases mem5 hd with q | q | q | q | q
    · subst q; exact ⟨_, a1, fun v q => nomatch q⟩
    · subst q; exact ⟨_, a2, fun v q => nomatch q⟩
    · subst q; exact ⟨_, a3, fun v q => nomatch q⟩
    · subst q; exact ⟨o1, e1, fun v q => by rw [d1] at q; cases q⟩
    · subst q; exact ⟨o2, e2, fun v q => by rw [d2] at q; cases q⟩
  keep := fun i h h' ⟨a1, a2, ⟨x, y, a3⟩, a4, a5⟩ k => ⟨k c (by simp) _ a1, k I (by simp) _ a2, ⟨x, y, k O (by simp) _ a3⟩, a4.at fun o q => k i1 (by simp) o q, a5.at fun o q => k i2 (by simp) o q⟩
  item := by
    intro X hP hw hK hc i pins s σ H E J hf st ⟨xs, ys, x, y, hqx, hqy, hx, hy⟩
    subst hP hw hK
    obtain ⟨its, rv, p, _⟩ := J.tuple hqx
    obtain ⟨its2, rv2, p2, _⟩ := J.list hqy
    obtain ⟨u, hu, ru⟩ := rv.get hx
    obtain ⟨u2, hu2, ru2⟩ := rv2.get hy
    have cl : c < s.heap.objs.size := Heap.lt_size st.1
    have lt : ∀ d ∈ [c, I, O, i1, i2], d < s.heap.objs.size := fun d hd => by
      obtain ⟨a1, a2, ⟨x', y', a3⟩, ⟨o1, e1, _⟩, ⟨o2, e2, _⟩⟩ := id st
      rcases mem5 hd with q | q | q | q | q
      · subst q; exact Heap.lt_size a1
      · subst q; exact Heap.lt_size a2
      · subst q; exact Heap.lt_size a3
      · subst q; exact Heap.lt_size e1
      · subst q; exact Heap.lt_size e2
    have hI := st.2.1
    refine nextM_item D st p p2.isList (x := u) (y := u2) (by simpa using hu) (by simpa using hu2) fun g c' O' h1' h2' hT hk => ⟨_, rfl, wpAny_letOwnedTupleGo_zip (s := { s with heap := g }) c' fun g2 c2 sb => ?_⟩
    have T2 : g2.get? s.heap.objs.size = some { cls := .type "tuple", data := .seq #[u, u2] } := (sb.2 _ (Nat.ne_of_gt cl)).trans hT
    have new : ObjOk X.prog X.w (upd H s.heap.objs.size (.tup [x, y])) g2 s.heap.objs.size (.tup [x, y]) := ⟨by show 2 ≤ sizeLine; decide, [u, u2], .cons ru (.cons ru2 .nil), ⟨_, T2, rfl, _, rfl⟩⟩
    have kp : ∀ d o, d ∉ [c, I, O, i1, i2] → s.heap.get? d = some o → g2.get? d = some o := fun d o hd e => by
      simp only [List.mem_cons, List.not_mem_nil, or_false, not_or] at hd
      exact (sb.2 d hd.1).trans (hk d o hd.1 hd.2.2.1 hd.2.2.2.1 hd.2.2.2.2 e)
    refine ⟨.ref s.heap.objs.size, _, J.turnedNew (t' := s.toks) (ch := [c, I, O, i1, i2]) kp hf (Nat.le_refl _) new, rfl, ⟨_, x, y, rfl, J.hok.fresh (Nat.le_refl _), rfl, fun l hl => by rw [J.tuple_inj hl hqx]; exact hx, fun l hl => by rw [J.list_inj hl hqy]; exact hy⟩, ⟨c2, ?_, ⟨u, u2, ?_⟩, ?_, ?_⟩, fun d hd => ?_⟩
    · exact (sb.2 _ D.TIz).trans (hk _ _ D.TIz D.TITO D.TIi1 D.TIi2 hI)
    · exact (sb.2 _ D.TOz).trans O'
    · exact h1'.at fun o q => (sb.2 _ D.i1z).trans q
    · exact h2'.at fun o q => (sb.2 _ D.i2z).trans q
    · rw [upd_ne (Nat.ne_of_lt (lt d hd))]
      exact (hf d hd).1
  done := by
    intro X hP hw hK hc i pins s σ H E J hf st ⟨xs, ys, hqx, hqy, hend⟩
    subst hP hw hK
    obtain ⟨its, rv, p, _⟩ := J.tuple hqx
    obtain ⟨its2, rv2, p2, _⟩ := J.list hqy
    have l1 := rv.length
    have l2 := rv2.length
    refine nextM_end (J.ok.hd hc) D st p p2.isList (hend.imp (fun q => by simp; omega) fun q => by simp; omega) fun g hk => ⟨rfl, J.turnedL (t' := s.toks) (ch := [c, I, O, i1, i2]) (fun d o hd e => ?_) hf⟩
    simp only [List.mem_cons, List.not_mem_nil, or_false, not_or] at hd
    exact hk d o hd.1 hd.2.2.1 hd.2.2.2.1 hd.2.2.2.2 e
  self := fun A i s Q E st h => wpAny_pyIter_zip st.1 h
end K5

/-! == of nested values that may hold instances of an own class. -/
namespace K2
open PySem PySem.Spec PyProof.Rows L2 K1
open SeqAt AutoSeq1 MeetsSeq MeetsSeq2 MeetsSeq3

/-- code that runs at A for the body X: the same frames, room -/
structure Af (X : Cx) (k : Nat) (A : Around) : Prop where
  fr : A.frames = some X.stack
  room : Room k A
theorem Af.env0 {X : Cx} {k : Nat} {A : Around} {pins : List (Addr × Obj)} {σ : L2.St} {H : Hp} {s : Shared} (t : Af X k A) (I : Inv X pins σ H s) : Env0 X.prog X.w X.K X.mg X.base A X.stack s H := by
  have e := I.env0
  exact ⟨t.fr, e.mod, e.bs, e.bsz, e.funs, e.frf, e.hok, e.bare⟩
theorem Af.in1 {X : Cx} {k : Nat} {A : Around} (t : Af X (k + 1) A) : Af X k A.in1 := ⟨t.fr, t.room.in1⟩
theorem Af.less {X : Cx} {j k : Nat} {A : Around} (t : Af X k A) (h : j ≤ k) : Af X j A := ⟨t.fr, t.room.mono h⟩
theorem run_af {X : Cx} {k : Nat} {A : Around} {f : Addr} {fd : FuncData} {ps : List Str} {sp : Sp} {pins : List (Addr × Obj)} {σ : L2.St} {H : Hp} {s : Shared} {Q : VK} {us : List Value} {vs : List V} {E : Value → Shared → Prop}
    (F : FnOk X.prog X.w X.K X.mg X.base CX0 k f fd ps sp) (t : Af X k A) (hb : Binds X.K fd ps []) (I : Inv X pins σ H s) (r : Vals vs us) (h : sp vs H Q E0) :
    wpAny (model X.prog X.w) A (call (.ref f) us) (EP X pins σ Q) E s := by
  have hl : us.length = ps.length := by rw [← r.length]; exact F.len _ _ _ _ h
  have b1 := hb s us I.kIn (by rw [List.append_nil]; exact hl)
  rw [List.append_nil] at b1
  refine wpAny_call (codeAny_mono (F.run A X.stack s H ⟨us, []⟩ us vs Q E0 t.room (t.env0 I) b1 r h) fun r s' hq => ?_)
  cases r with
  | error e => exact False.elim hq
  | ok fl =>
    cases fl with
    | ret u => exact I.after hq
    | next => exact False.elim hq
    | brk => exact False.elim hq
    | cont => exact False.elim hq

theorem tup_at {X : Cx} {a : Addr} {xs : List V} {pins : List (Addr × Obj)} {σ : L2.St} {s : Shared} {H1 : Hp} (I : Inv X pins σ H1 s) (h : H1 a = some (.tup xs)) :
    ∃ (o : Obj) (its : List Value) (n : Nat), s.heap.get? a = some o ∧ o.cls = .type "tuple" ∧ o.data = .seq its.toArray n ∧ Vals xs its := by
  obtain ⟨_, its, r, o, h1, h2, n, h3⟩ := (show ObjOk X.prog X.w H1 s.heap a (.tup xs) from I.hok a _ h)
  exact ⟨o, its, n, h1, h2, h3, r⟩
theorem own_inst {X : Cx} {a C : Addr} {pins : List (Addr × Obj)} {σ : L2.St} {s : Shared} {H1 : Hp} (I : Inv X pins σ H1 s) {dx : Addr} {fs : List (Str × V)} (h : H1 a = some (.ins C dx fs)) : ∃ ox od, PySem.W.InstAt s.heap a ox C od := by
  obtain ⟨mA, O, _⟩ := ins_get I.hok h
  obtain ⟨od, J, _⟩ := O.look
  exact ⟨_, _, J⟩
/-- v == v', by eqBool and by richCompare, tells b wherever it is reached -/
def EqU (X : Cx) (k : Nat) (H : Hp) (v v' : V) (b : Bool) : Prop :=
  ∀ (A : Around) (E : Value → Shared → Prop) (pins : List (Addr × Obj)) (σ : L2.St) (s : Shared) (H1 : Hp) (u u' : Value) (Q : Bool → Shared → Prop), Af X k A → Inv X pins σ H1 s → Same H H1 → RelV v u → RelV v' u' →
    (∀ s' H2, Inv X pins σ H2 s' → Same H1 H2 → Q b s') → wpAny (model X.prog X.w) A (eqBool u u') Q E s
def RcU (X : Cx) (k : Nat) (H : Hp) (v v' : V) (b : Bool) : Prop :=
  ∀ (A : Around) (E : Value → Shared → Prop) (pins : List (Addr × Obj)) (σ : L2.St) (s : Shared) (H1 : Hp) (u u' : Value) (Q : Value → Shared → Prop), Af X k A → Inv X pins σ H1 s → Same H H1 → RelV v u → RelV v' u' →
    (∀ s' H2, Inv X pins σ H2 s' → Same H1 H2 → Q (.bool b) s') → wpAny (model X.prog X.w) A (richCompare .Eq u u') Q E s
theorem EqU.more {X : Cx} {j k : Nat} {H : Hp} {v v' : V} {b : Bool} (r : EqU X j H v v' b) (h : j ≤ k) : EqU X k H v v' b :=
  fun A E pins σ s H1 u u' Q a I hs r1 r2 hq => r A E pins σ s H1 u u' Q (a.less h) I hs r1 r2 hq
/-- data that the library compares -/
theorem EqU.of_at {X : Cx} {k : Nat} {H : Hp} {v v' : V} {b : Bool} (h : ∀ (A : Around) (s : Shared) (H1 : Hp) (pins : List (Addr × Obj)) (σ : L2.St) (u u' : Value), A.units < cLine → Inv X pins σ H1 s → Same H H1 → RelV v u → RelV v' u' → EqAt A s u u' b) : EqU X k H v v' b :=
  fun A E pins σ s H1 u u' Q a I hs r1 r2 hq => h A s H1 pins σ u u' (by have := a.room.un; omega) I hs r1 r2 X.prog X.w E Q (hq s H1 I (Same.refl _))
/-- two refs: the same one, or as they are compared -/
theorem EqU.of_rc {X : Cx} {k : Nat} {H : Hp} {a c : Addr} {b : Bool} (h0 : a = c → b = true) (h : RcU X k H (.ref a) (.ref c) b) : EqU X k H (.ref a) (.ref c) b := by
  intro A E pins σ s H1 u u' Q at_ I hs r1 r2 hq
  obtain rfl : u = Value.ref a := r1
  obtain rfl : u' = Value.ref c := r2
  unfold eqBool
  refine wpAny_holding ?_
  refine wpAny_ite_split (fun hab => ?_) (fun _ => ?_)
  · have e : a = c := by have := eq_of_beq hab; injection this
    have e := h0 e
    subst e
    exact wpAny_bind (wpAny_rule (wpAny_pure (hq s H1 I (Same.refl _))))
  · exact wpAny_bind (h A E pins σ s H1 _ _ _ at_ I hs rfl rfl fun s' H2 I2 hs2 => wpAny_truthy_bool (hq s' H2 I2 hs2))

/-! ### tuples -/
/-- two lists compared item by item, as far as both go: b tells whether all are equal -/
inductive EqL (X : Cx) (k : Nat) (H : Hp) : List V → List V → Bool → Prop
  | nilL {ys : List V} : EqL X k H [] ys true
  | nilR {xs : List V} : EqL X k H xs [] true
  | no {x y : V} {xs ys : List V} : EqU X k H x y false → EqL X k H (x :: xs) (y :: ys) false
  | yes {x y : V} {xs ys : List V} {b : Bool} : EqU X k H x y true → EqL X k H xs ys b → EqL X k H (x :: xs) (y :: ys) b
section
variable {X : Cx} {H : Hp} {a c : Addr} {xs ys : List V} {k : Nat} {b : Bool}
theorem tup_eq_run (e : EqL X k H xs ys b) (hx : H a = some (.tup xs)) (hy : H c = some (.tup ys)) {A : Around} {pins : List (Addr × Obj)} {σ : L2.St} {s : Shared} {H1 : Hp} {R : Result → Shared → Prop} (at_ : Af X (k + 1) A) (I : Inv X pins σ H1 s) (hs : Same H H1)
    (hR : ∀ s' H2, Inv X pins σ H2 s' → Same H1 H2 → R (.ok (.ret (.bool (b && xs.length == ys.length)))) s') :
    wpAny (model X.prog X.w) A.in1 (Builtin.«tuple.__eq__» ⟨[.ref a, .ref c], []⟩) (fun fin s' => ∃ v, fin = .done (.ret v) ∧ R (.ok (.ret v)) s') (fun e s' => R (.error e) s') s := by
  obtain ⟨oa, its, na, h1, h2, h3, rx⟩ := tup_at I (hs _ _ hx)
  obtain ⟨oc, its2, nc, g1, g2, g3, ry⟩ := tup_at I (hs _ _ hy)
  obtain ⟨cls, dd, data, sl⟩ := oa
  obtain ⟨cls2, dd2, data2, sl2⟩ := oc
  simp only at h2 h3 g2 g3
  subst h2 h3 g2 g3
  have f2 := AutoSeq1.sub_tuple_tuple
  have l1 := rx.length
  have l2 := ry.length
  obtain ⟨hp, g, d, tk, os⟩ := s
  wp_walk using wpAny_loadPart' h1, wpAny_loadPart' g1, wpAny_forIn_list _ (fun rest b' s' => b'.1 = none ∧ ∃ xs' ys' us ws H2, rest = us.zip ws ∧ Vals xs' us ∧ Vals ys' ws ∧ EqL X k H xs' ys' b ∧ Inv X pins σ H2 s' ∧ Same H1 H2) _
  case turn =>
    rintro ⟨y, x⟩ rest b' s' ⟨hb', xs', ys', us, ws, H2, hz, ru, rw, el, I2, hs2⟩
    cases ru with
    | nil => simp at hz
    | @cons p u ps us' q1 q2 =>
      cases rw with
      | nil => simp at hz
      | @cons p' w ps' ws' q3 q4 =>
        rw [List.zip_cons_cons] at hz
        injection hz with hyx hrest
        injection hyx with e1 e2
        subst e1 e2
        cases el with
        | no h =>
          refine wpAny_bind (h A.in1 _ pins σ s' H2 _ _ _ at_.in1 I2 (hs.trans hs2) q1 q3 fun s3 H3 I3 hs3 => ?_)
          have z := hR s3 H3 I3 (hs2.trans hs3)
          rw [Bool.false_and] at z
          wp_walk
          exact ⟨_, rfl, z⟩
        | yes h hr =>
          refine wpAny_bind (h A.in1 _ pins σ s' H2 _ _ _ at_.in1 I2 (hs.trans hs2) q1 q3 fun s3 H3 I3 hs3 => ?_)
          wp_walk
          exact ⟨rfl, _, _, _, _, H3, hrest, q2, q4, hr, I3, hs2.trans hs3⟩
  case fin =>
    rintro ⟨b1, b2⟩ s' ⟨hb', xs', ys', us, ws, H2, hz, ru, rw, el, I2, hs2⟩
    simp only at hb'
    subst hb'
    have z := hR s' H2 I2 hs2
    have eb : b = true := by
      cases ru with
      | nil => cases el <;> rfl
      | cons q1 q2 =>
        cases rw with
        | nil => cases el <;> rfl
        | cons q3 q4 => simp at hz
    rw [eb, Bool.true_and, l1, l2] at z
    wp_walk
    exact ⟨_, rfl, by simpa [Builtin.Tuple.tupleCompareSizes] using z⟩
  case h => exact ⟨rfl, xs, ys, its, its2, H1, by simp, rx, ry, e, I, Same.refl _⟩
theorem RcU.tup (e : EqL X k H xs ys b) (hx : H a = some (.tup xs)) (hy : H c = some (.tup ys)) : RcU X (k + 1) H (.ref a) (.ref c) (b && xs.length == ys.length) := by
  intro A E pins σ s H1 u u' Q at_ I hs r1 r2 hq
  obtain rfl : u = Value.ref a := r1
  obtain rfl : u' = Value.ref c := r2
  obtain ⟨oa, its, na, h1, h2, h3, rx⟩ := tup_at I (hs _ _ hx)
  obtain ⟨oc, its2, nc, g1, g2, g3, ry⟩ := tup_at I (hs _ _ hy)
  have hT : s.TypeIs (.ref a) "tuple" := ⟨oa, h1, h2⟩
  have hT2 : s.TypeIs (.ref c) "tuple" := ⟨oc, g1, g2⟩
  refine wpAny_richCompare_same_room hT hT2 F.slot_tuple_eq ?_ (by have := at_.room.un; omega)
  refine wpAny_call (codeAny_call_builtin F.slot_tuple_eq.plain F.entry_tuple_eq (F.slot_tuple_eq.check _ _ _ _ _ _ _ _ hT (F.args_tuple_eq_2 _ _) ?_))
  refine wpAny_mono (tup_eq_run (R := wants (fun v s' => v ≠ .notImplemented ∧ Q v s') E) e hx hy at_ I hs fun s' H2 I2 hs2 => ⟨(fun x => nomatch x), hq s' H2 I2 hs2⟩) (fun fin s' h' => ?_) fun _ _ x => x
  obtain ⟨v, rfl, hv⟩ := h'
  exact hv
end
/-- an own == of a class, that tells its answer and changes nothing -/
structure EqOf (X : Cx) (C f : Addr) (fd : FuncData) (k : Nat) (sp : Sp) : Prop where
  fn : FnOk X.prog X.w X.K X.mg X.base CX0 k f fd ["self", "other"] sp
  bd : Binds X.K fd ["self", "other"] []
  at_ : OwnM X.K C "__eq__" f
section
variable {X : Cx} {C f a : Addr} {fd : FuncData} {k : Nat} {sp : Sp} {H : Hp} {b : Bool} {y : V}
/-- the own def's run, as an answer of a comparison -/
theorem own_run (R : EqOf X C f fd k sp) {A : Around} {E : Value → Shared → Prop} {pins : List (Addr × Obj)} {σ : L2.St} {s : Shared} {H1 : Hp} {u : Value} {Q : Value → Shared → Prop} (at_ : Af X k A) (I : Inv X pins σ H1 s) (ry : RelV y u)
    (p : sp [.ref a, y] H1 (fun v H2 => v = .bl b ∧ Same H1 H2) E0) (hq : ∀ s' H2, Inv X pins σ H2 s' → Same H1 H2 → Q (.bool b) s') : wpAny (model X.prog X.w) A (call (.ref f) [.ref a, u]) (PySem.W.CmpBack Q) E s := by
  refine thn (run_af (vs := [.ref a, y]) (us := [.ref a, u]) R.fn at_ R.bd I (.cons rfl (.cons ry .nil)) p) fun r s' hr => ?_
  obtain ⟨v, H2, I2, rv, rfl, hs2⟩ := hr
  obtain rfl : r = Value.bool b := rv
  exact hq s' H2 I2 hs2
theorem RcU.ownL (R : EqOf X C f fd k sp) {dx : Addr} {fs : List (Str × V)} {t : Value} (h : H a = some (.ins C dx fs)) (ty : ∀ H1, Same H H1 → TyOf X.K H1 y t) (hn : PySem.W.notFirst X.K C t = true)
    (p : ∀ H1, Same H H1 → sp [.ref a, y] H1 (fun v H2 => v = .bl b ∧ Same H1 H2) E0) : RcU X k H (.ref a) y b := by
  intro A E pins σ s H1 u u' Q at_ I hs r1 r2 hq
  obtain rfl : u = Value.ref a := r1
  obtain ⟨ox, od, J⟩ := own_inst I (hs _ _ h)
  obtain ⟨m, hF⟩ := I.fr
  exact PySem.W.cmp_K (op := .Eq) (by have := at_.room.un; omega) hF I.ok.mod.kin J (ty_look I r2 (ty H1 hs)) hn R.at_.at_ R.at_.fn (own_run R at_ I r2 (p H1 hs) hq)
end
/-- == of two tuples that may hold own things -/
def rTupEq (X : Cx) (k : Nat) : R2 := fun x y H Q => ∃ (a c : Addr) (xs ys : List V) (b : Bool), x = .ref a ∧ y = .ref c ∧ H a = some (.tup xs) ∧ H c = some (.tup ys) ∧ EqL X k H xs ys b ∧ ∀ H', Same H H' → Q (.bl (b && xs.length == ys.length)) H'
theorem op_tupEq {X : Cx} {k : Nat} (hr : Room (k + 1) X.A) : OpR X (compareOp .Eq) (rTupEq X k) := by
  intro pins s σ H x y v u Q I rx ry h
  obtain ⟨a, c, xs, ys, b, rfl, rfl, h1, h2, e, q⟩ := h
  refine PySem.W.cmp_ofEq ?_
  exact RcU.tup e h1 h2 X.A X.xe pins σ s H v u _ ⟨I.ok.frames, hr⟩ I (Same.refl _) rx ry fun s' H2 I2 s2 => ⟨.bl _, H2, I2, rfl, q H2 s2⟩
end K2

/-! k05: methods of swaps. -/
namespace K5
open PySem PySem.Spec PyProof.Rows L2 LamX K1 K18

/-- Swap(e, e') -/
structure MkS (P : Program) (w : World) (K : PySem.W.Frag) (mg : Str → Option Value) (base : Heap) (C CH CS CM : Addr) : Prop where
  g : mg "Swap" = some (.ref CS)
  m : ∃ f fd, Mk K CS f ∧ FnOk P w K mg base (L2.CX P w) 8 f fd ["self", "strangers", "hands"] (spSInit C CH CS CM) ∧ Binds K fd ["self", "strangers", "hands"] []
theorem told_new {H H' : Hp} {x dx C d : Addr} {fs : List (Str × V)} (hx : H x = none) (hd : H dx = none) (ne : dx ≠ x) (t : ToldF (upd (upd H dx (.own x)) x (.ins C dx [])) H' d fs) : ToldF H H' d fs := by
  refine ⟨fun c o e => t.same _ _ ?_, ?_, t.at_⟩
  · rw [upd_ne (ne_of_none e hx), upd_ne (ne_of_none e hd)]
    exact e
  · have n := t.new
    have d1 : d ≠ x := by rintro rfl; rw [upd_same] at n; cases n
    rw [upd_ne d1] at n
    have d2 : d ≠ dx := by rintro rfl; rw [upd_same] at n; cases n
    rwa [upd_ne d2] at n
section
variable {C CH CS CM : Addr} {H : Hp} {sa ha : Addr} {ns : List Str} {as : List Addr} {hs : List Hnd} {Q : VK} {E : XK}
theorem mk_swap (sqs : H sa = some (.lst (ns.map V.str))) (sqh : SqA H ha (as.map V.ref)) (hh : Hands C CH H as hs) (ok : SwOk ns hs) (l100 : hs.length ≤ 100)
    (q : hs.length ≤ 40 → ∀ p H', Same H H' → H p = none → SwAt C CH CS H' p ns hs → Q (.ref p) H') (qe : 40 < hs.length → ∀ d H', ToldF H H' d fTooMany → E (.ref CM) (some d) H') :
    ∀ x dx, H x = none → H dx = none → dx ≠ x → spSInit C CH CS CM [.ref x, .ref sa, .ref ha] (upd (upd H dx (.own x)) x (.ins CS dx [])) (fun v H2 => v = .non ∧ Q (.ref x) H2) E := fun x dx hx hd ne => by
  have s1 : Same H (upd (upd H dx (.own x)) x (.ins CS dx [])) := fun o u e => by rw [upd_ne (ne_of_none e hx), upd_ne (ne_of_none e hd)]; exact e
  exact ⟨x, dx, sa, ha, ns, as, hs, rfl, upd_same, s1 _ _ sqs, sqh.same s1, hh.same s1, ok, l100, fun l H' kp sw => ⟨rfl, q l x H' (fun o u e => kp o u (ne_of_none e hx) (s1 o u e)) hx sw⟩, fun l d H' t => qe l d H' (told_new hx hd ne t)⟩
/-- few enough -/
theorem mk_swap0 (sqs : H sa = some (.lst (ns.map V.str))) (sqh : SqA H ha (as.map V.ref)) (hh : Hands C CH H as hs) (ok : SwOk ns hs) (l40 : hs.length ≤ 40)
    (q : ∀ p H', Same H H' → H p = none → SwAt C CH CS H' p ns hs → Q (.ref p) H') :
    ∀ x dx, H x = none → H dx = none → dx ≠ x → spSInit C CH CS CM [.ref x, .ref sa, .ref ha] (upd (upd H dx (.own x)) x (.ins CS dx [])) (fun v H2 => v = .non ∧ Q (.ref x) H2) E :=
  mk_swap sqs sqh hh ok (by omega) (fun _ => q) fun l => absurd l (by omega)
end
theorem SwOk.back {ns : List Str} {hs : List Hnd} (k : SwOk ns hs) : SwOk ns (hs.map Hnd.back) := ⟨k.n2, k.n6, k.nd, k.nm, fun h m => by
  obtain ⟨g, mg, rfl⟩ := List.mem_map.mp m
  obtain ⟨a, b, c⟩ := k.hk g mg
  exact ⟨a.back, c, b⟩⟩
theorem SwOk.app {ns : List Str} {hs ks : List Hnd} (k : SwOk ns hs) (l : SwOk ns ks) : SwOk ns (hs ++ ks) := ⟨k.n2, k.n6, k.nd, k.nm, fun h m => (List.mem_append.mp m).elim (k.hk h) (l.hk h)⟩
def spLen (C CH CS : Addr) : Sp := fun vs H Q _ => ∃ a ns hs, vs = [.ref a] ∧ SwAt C CH CS H a ns hs ∧ Q (.int (hs.length : Nat)) H
def spIter (C CH CS : Addr) : Sp := fun vs H Q _ => ∃ a ns hs, vs = [.ref a] ∧ SwAt C CH CS H a ns hs ∧ ∀ it t as, H t = some (.tup (as.map V.ref)) → Hands C CH H as hs → H it = none → Q (.ref it) (upd H it (ItT t it 0))
def spItem (C CH CS : Addr) : Sp := fun vs H Q _ => ∃ a ns hs i h, vs = [.ref a, .int i] ∧ SwAt C CH CS H a ns hs ∧ 0 ≤ i ∧ hs[i.toNat]? = some h ∧ ∀ p H', Same H H' → HandAt C CH H' p h → Q (.ref p) H'
def spSEq (C CH CS : Addr) : Sp := fun vs H Q _ => ∃ a b ns hs ms ks, vs = [.ref a, .ref b] ∧ SwAt C CH CS H a ns hs ∧ SwAt C CH CS H b ms ks ∧ (∀ n ∈ ns, Nm n) ∧ (∀ n ∈ ms, Nm n) ∧ ∀ H', Same H H' → Q (.bl (decide (ns = ms) && decide (hs = ks))) H'
def spSNeg (C CH CS : Addr) : Sp := fun vs H Q _ => ∃ a ns hs, vs = [.ref a] ∧ SwAt C CH CS H a ns hs ∧ SwOk ns hs ∧ hs.length ≤ 40 ∧ ∀ p H', Same H H' → H p = none → SwAt C CH CS H' p ns (hs.map Hnd.back) → Q (.ref p) H'
/-- no swap -/
def NotSw (K : PySem.W.Frag) (CS : Addr) (H : Hp) (v : V) : Prop := ∃ t, TyOf K H v t ∧ PySem.W.kitOne K t (.ref CS) = some false
theorem NotSw.same {K : PySem.W.Frag} {CS : Addr} {H H' : Hp} {v : V} (s : Same H H') (h : NotSw K CS H v) : NotSw K CS H' v := let ⟨t, a, b⟩ := h; ⟨t, TyOf.keep s a, b⟩
def spSAdd (K : PySem.W.Frag) (C CH CS CW CU CM : Addr) : Sp := fun vs H Q E => ∃ a v ns hs, vs = [.ref a, v] ∧ SwAt C CH CS H a ns hs ∧ SwOk ns hs ∧ hs.length ≤ 50 ∧
  ((NotSw K CS H v ∧ ∀ d H', ToldF H H' d [("part", .str "other")] → E (.ref CW) (some d) H') ∨
   ∃ b ms ks, v = .ref b ∧ SwAt C CH CS H b ms ks ∧ SwOk ms ks ∧ ks.length ≤ 50 ∧
    (ns ≠ ms → ∀ d H', ToldF H H' d [("what", .str "strangers")] → E (.ref CU) (some d) H') ∧
    (ns = ms → (hs.length + ks.length ≤ 40 → ∀ p H', Same H H' → H p = none → SwAt C CH CS H' p ns (hs ++ ks) → Q (.ref p) H') ∧ (40 < hs.length + ks.length → ∀ d H', ToldF H H' d fTooMany → E (.ref CM) (some d) H')))
/-! texts as data -/
theorem dps_S {K : PySem.W.Frag} {H : Hp} : ∀ xs : List Str, DpAll K H (xs.map V.str) (xs.map PyData.str)
  | [] => .nil
  | x :: xs => .cons (.str x) (dps_S xs)
theorem nm_ok {x : Str} (h : Nm x) : PyData.strOk x = true := by
  unfold PyData.strOk
  rw [← Array.all_toList]
  refine List.all_eq_true.mpr fun c m => decide_eq_true ?_
  rcases h.al c m with e | e
  · have := of_decide_eq_true e; omega
  · have := of_decide_eq_true e; omega
theorem strs_lay : ∀ {xs : List Str}, (∀ x ∈ xs, PyData.strOk x = true) → PyData.canLayAll0 (xs.map PyData.str) = true ∧ PyData.depthAll (xs.map PyData.str) ≤ 2
  | [], _ => by simp [PyData.canLayAll0, PyData.depthAll]
  | x :: xs, h => by
    obtain ⟨a, b⟩ := strs_lay (xs := xs) fun y m => h y (List.mem_cons_of_mem _ m)
    have c := h x (List.mem_cons_self ..)
    simp only [List.map_cons, PyData.canLayAll0, PyData.canLay0, PyData.depthAll, PyData.depth, a, c]
    exact ⟨rfl, by omega⟩
theorem strs_sh {xs : List Str} (h : ∀ x ∈ xs, PyData.strOk x = true) : SeqAt.shaped (.tuple (xs.map PyData.str)) = true ∧ SeqAt.shaped (.list (xs.map PyData.str)) = true := by
  obtain ⟨a, b⟩ := strs_lay h
  constructor
  · show (PyData.canLay0 (.tuple (xs.map PyData.str)) && decide (PyData.depth (.tuple (xs.map PyData.str)) ≤ 64)) = true
    simp only [PyData.canLay0, PyData.depth, a, Bool.true_and]
    exact decide_eq_true (by omega)
  · show (PyData.canLay0 (.list (xs.map PyData.str)) && decide (PyData.depth (.list (xs.map PyData.str)) ≤ 64)) = true
    simp only [PyData.canLay0, PyData.depth, a, Bool.true_and]
    exact decide_eq_true (by omega)
theorem strs_eqv : ∀ (xs ys : List Str), PyData.eqv (.tuple (xs.map PyData.str)) (.tuple (ys.map PyData.str)) = decide (xs = ys) := by
  have key : ∀ xs ys : List Str, PyData.eqvAll (xs.map PyData.str) (ys.map PyData.str) = decide (xs = ys) := by
    intro xs
    induction xs with
    | nil => intro ys; cases ys <;> simp [PyData.eqvAll]
    | cons a r ih =>
      intro ys
      cases ys with
      | nil => simp [PyData.eqvAll]
      | cons b s =>
        simp only [List.map_cons, PyData.eqvAll, PyData.eqv, ih]
        by_cases h : a = b
        · subst h; simp
        · simp [h]
  intro xs ys
  rw [PyData.eqv]
  exact key xs ys
end K5

/-! k05: methods of swaps, proved. -/
namespace K5
open PySem PySem.Spec PyProof.Rows L2 LamX K1 K18

theorem All2.cons {α β : Type} {R : α → β → Prop} {x : α} {y : β} {xs : List α} {ys : List β} (h : All2 R (x :: xs) (y :: ys)) : R x y ∧ All2 R xs ys :=
  ⟨h.2 0 x y rfl rfl, by simpa using h.1, fun i a b ea eb => h.2 (i + 1) a b ea eb⟩
theorem six_upd {C : Addr} {H : Hp} {a D : Addr} {s : Int} {xs : List V} {o : HO} (h : H D = some (.lst xs)) (k : Six C H a s) : Six C (upd H D o) a s := let ⟨dx, z⟩ := k; ⟨dx, by rw [upd_ne (ne_of z h (fun z => nomatch z))]; exact z⟩
theorem hand_upd {C CH : Addr} {H : Hp} {a D : Addr} {k : Hnd} {xs : List V} {o : HO} (h : H D = some (.lst xs)) (z : HandAt C CH H a k) : HandAt C CH (upd H D o) a k :=
  let ⟨dx, pc, pd, z1, z2, z3⟩ := z
  ⟨dx, pc, pd, by rw [upd_ne (ne_of z1 h (fun z => nomatch z))]; exact z1, six_upd h z2, six_upd h z3⟩
theorem Six.inj {C : Addr} {H : Hp} {a : Addr} {s t : Int} (h : Six C H a s) (k : Six C H a t) : s = t := by
  obtain ⟨dx, h⟩ := h
  obtain ⟨dy, k⟩ := k
  rw [h] at k
  injection k with k
  injection k with _ _ k
  have e1 := fsR_top (rT s 6) (rB s 6)
  have e2 := fsR_bottom (rT s 6) (rB s 6)
  rw [k, fsR_top] at e1
  rw [k, fsR_bottom] at e2
  exact (six_inj s t).mp ⟨(V.int.inj (Option.some.inj e1)).symm, (V.int.inj (Option.some.inj e2)).symm⟩
theorem HandAt.inj {C CH : Addr} {H : Hp} {a : Addr} {h k : Hnd} (x : HandAt C CH H a h) (y : HandAt C CH H a k) : h = k := by
  obtain ⟨dx, pc, pd, h1, h2, h3⟩ := x
  obtain ⟨dy, qc, qd, k1, k2, k3⟩ := y
  rw [h1] at k1
  injection k1 with k1
  injection k1 with _ _ k1
  have e1 := fh_g h.g h.t pc pd
  have e2 := fh_t h.g h.t pc pd
  have e3 := fh_c h.g h.t pc pd
  have e4 := fh_d h.g h.t pc pd
  rw [k1, fh_g] at e1
  rw [k1, fh_t] at e2
  rw [k1, fh_c] at e3
  rw [k1, fh_d] at e4
  obtain rfl := V.ref.inj (Option.some.inj e3)
  obtain rfl := V.ref.inj (Option.some.inj e4)
  have c := h2.inj k2
  have d := h3.inj k3
  have g := V.str.inj (Option.some.inj e1)
  have t := V.str.inj (Option.some.inj e2)
  cases h; cases k
  simp_all
section
variable {P : Program} {w : World} {K : PySem.W.Frag} {mg : Str → Option Value} {base : Heap} {f C CH CS CW CD CI CT CU CM : Addr} {fd : FuncData}
/-- == of hand-overs' lists -/
theorem hands_eq {X : Cx} {k : Nat} {H : Hp} {fe : Addr} {fde : FuncData} (R : K2.EqOf X CH fe fde k (spHEq C CH)) (RH : HandF X.K CH) (nf : PySem.W.notFirst X.K CH (.ref CH) = true) :
    ∀ {as bs : List Addr} {hs ks : List Hnd}, Hands C CH H as hs → Hands C CH H bs ks → ∃ b, K2.EqL X k H (as.map V.ref) (bs.map V.ref) b ∧ (b && (as.map V.ref).length == (bs.map V.ref).length) = decide (hs = ks) := by
  intro as
  induction as with
  | nil =>
    intro bs hs ks h1 h2
    cases hs with
    | cons => have := h1.1; simp at this
    | nil =>
      refine ⟨true, .nilL, ?_⟩
      cases bs with
      | nil => cases ks with
        | nil => simp
        | cons => have := h2.1; simp at this
      | cons => cases ks with
        | nil => have := h2.1; simp at this
        | cons => simp
  | cons a as ih =>
    intro bs hs ks h1 h2
    cases hs with
    | nil => have := h1.1; simp at this
    | cons h hs =>
      cases bs with
      | nil =>
        cases ks with
        | nil => exact ⟨true, .nilR, by simp⟩
        | cons => have := h2.1; simp at this
      | cons b bs =>
        cases ks with
        | nil => have := h2.1; simp at this
        | cons m ks =>
          obtain ⟨x1, x2⟩ := h1.cons
          obtain ⟨y1, y2⟩ := h2.cons
          obtain ⟨bb, e, eb⟩ := ih x2 y2
          have run : K2.EqU X k H (.ref a) (.ref b) (decide (h = m)) := by
            obtain ⟨dx, pc, pd, z1, _, _⟩ := id x1
            refine K2.EqU.of_rc (fun e => ?_) (K2.RcU.ownL R (t := .ref CH) z1 (fun H1 s1 => ?_) nf fun H1 s1 => ⟨a, b, h, m, rfl, x1.same s1, y1.same s1, rfl, Same.refl _⟩)
            · subst e; exact decide_eq_true (x1.inj y1)
            · obtain ⟨dy, qc, qd, w1, _, _⟩ := y1
              exact RH.ty (s1 _ _ w1)
          by_cases hm : h = m
          · rw [decide_eq_true hm] at run
            refine ⟨bb, .yes run e, ?_⟩
            subst hm
            simpa using eb
          · rw [decide_eq_false hm] at run
            refine ⟨false, .no run, ?_⟩
            simp [hm]
abbrev HasHnd (P : Program) (w : World) (K : PySem.W.Frag) (mg : Str → Option Value) (base : Heap) (CI : Addr) : Prop := Has P w K mg base (L2.CX P w) 4 "check_hand" ["many", "value"] (spHand K CI)
theorem scLen : FnScope ["self"] ["self"] (defScope sSLen) := ⟨rfl, rfl, rfl, by decide +kernel, rfl, by decide +kernel, by decide +kernel⟩
theorem ok_slen (G : Glob mg) (R : SwapF K CS) (F : DefAt K "__len__" "Swap.__len__" sSLen f fd) : FnOk P w K mg base CX0 1 f fd ["self"] (spLen C CH CS) := by
  refine okN F scLen (fun vs H Q E ⟨a, ns, hs, e, _⟩ => by rw [e]; rfl) (fun cdv A outer s H vs Q E hr ⟨a, ns, hs, e, ha, q⟩ => ?_)
  subst e
  refine ⟨_, pss_one (ps_ret (pe_callB (r := rLenA K) (call_lenA rfl) (by rfl) G.len PySem.boot_len (pa_cons (pe_fld (pv 0) rfl) pa_nil))), ?_⟩
  obtain ⟨dx, ps, ph, pn, as, nas, h1, h2, h3, h4, h5, h6⟩ := ha
  refine ⟨_, rfl, a, CS, dx, _, _, rfl, h1, R.cl, R.nH, fs_h _ _ _, ph, _, rfl, .inr (SqT.of h3), ?_⟩
  rw [List.length_map, h4.1]
  exact q
theorem scIter : FnScope ["self"] ["self"] (defScope sSIter) := ⟨rfl, rfl, rfl, by decide +kernel, rfl, by decide +kernel, by decide +kernel⟩
theorem ok_siter (G : Glob mg) (R : SwapF K CS) (F : DefAt K "__iter__" "Swap.__iter__" sSIter f fd) : FnOk P w K mg base CX0 1 f fd ["self"] (spIter C CH CS) := by
  refine okN F scIter (fun vs H Q E ⟨a, ns, hs, e, _⟩ => by rw [e]; rfl) (fun cdv A outer s H vs Q E hr ⟨a, ns, hs, e, ha, q⟩ => ?_)
  subst e
  refine ⟨_, pss_one (ps_ret (pe_callB (call_iterT rfl) (by rfl) G.iter (by decide +kernel) (pa_cons (pe_fld (pv 0) rfl) pa_nil))), ?_⟩
  obtain ⟨dx, ps, ph, pn, as, nas, h1, h2, h3, h4, h5, h6⟩ := ha
  exact ⟨_, rfl, a, CS, dx, _, _, rfl, h1, R.cl, R.nH, fs_h _ _ _, ph, _, rfl, SqT.of h3, fun it nit => q it ph as h3 h4 nit⟩
theorem scItem : FnScope ["self", "at"] ["self", "at"] (defScope sSItem) := ⟨rfl, rfl, rfl, by decide +kernel, rfl, by decide +kernel, by decide +kernel⟩
theorem ok_sitem (G : Glob mg) (R : SwapF K CS) (HH : HasHnd P w K mg base CI) (F : DefAt K "__getitem__" "Swap.__getitem__" sSItem f fd) : FnOk P w K mg base CX0 5 f fd ["self", "at"] (spItem C CH CS) := by
  obtain ⟨fc, fdc, mC, kC, bC, GC⟩ := HH.h
  refine okN F scItem (fun vs H Q E ⟨a, ns, hs, i, h, e, _⟩ => by rw [e]; rfl) (fun cdv A outer s H vs Q E hr ⟨a, ns, hs, i, h, e, ha, i0, hi, q⟩ => ?_)
  subst e
  refine ⟨_, pss_cons (ps_expr (pe_call (E := E0) GC hr rfl mC kC bC .nil passL (pa_cons (pe_callB (r := rLenA K) (call_lenA rfl) (by rfl) G.len PySem.boot_len (pa_cons (pe_fld (pv 0) rfl) pa_nil)) (pa_cons (pv 1) pa_nil))))
    (pss_one (ps_ret (pe_ix ix_tup (pe_fld (pv 0) rfl) (pv 1) (fun _ _ => rfl)))), ?_⟩
  obtain ⟨dx, ps, ph, pn, as, nas, h1, h2, h3, h4, h5, h6⟩ := ha
  obtain ⟨p, hp, hat⟩ := h4.getR hi
  have li := (List.getElem?_eq_some_iff.mp hp).1
  refine ⟨_, rfl, a, CS, dx, _, _, rfl, h1, R.cl, R.nH, fs_h _ _ _, ph, _, rfl, .inr (SqT.of h3), _, rfl, _, _, rfl, .inl ⟨i, rfl, ⟨i0, by rw [List.length_map]; omega⟩, fun H1 s1 => ?_⟩⟩
  refine ⟨_, rfl, a, CS, dx, _, _, rfl, s1 _ _ h1, R.cl, R.nH, fs_h _ _ _, _, rfl, ph, as.map V.ref, i, .ref p, rfl, rfl, SqT.of (s1 _ _ h3), ?_, q p H1 s1 (hat.same s1)⟩
  have z := atI_nat (xs := as.map V.ref) (j := i.toNat) (v := .ref p) (by rw [List.getElem?_map, hp]; rfl)
  rwa [Int.toNat_of_nonneg i0] at z
end
end K5

/-! k05: + of swaps; check_swap, done_set, sums, handed_back, portion. -/
namespace K5
open PySem PySem.Spec PyProof.Rows L2 LamX K1 K18

def spCheck (K : PySem.W.Frag) (C CH CS CW : Addr) : Sp := fun vs H Q E => ∃ v, vs = [v] ∧ ((∃ a ns hs, v = .ref a ∧ SwAt C CH CS H a ns hs ∧ Q .non H) ∨ (NotSw K CS H v ∧ ∀ d H', ToldF H H' d [("part", .str "swap")] → E (.ref CW) (some d) H'))
/-- done_set: no swap; or what done_told tells -/
def spDoneSet (K : PySem.W.Frag) (C CH CS CW CD CI CT : Addr) : Sp := fun vs H Q E => ∃ u v, vs = [u, v] ∧ ((NotSw K CS H u ∧ ∀ d H', ToldF H H' d [("part", .str "swap")] → E (.ref CW) (some d) H') ∨
  ∃ a ns hs, u = .ref a ∧ SwAt C CH CS H a ns hs ∧ hs.length ≤ 1000 ∧ HandsW K CD CI CT (hs.length : Nat) v (.str "done") H E fun ms b => ∀ (ks : List Int) (t : Addr) (H' : Hp), ks.Perm ms → ks.Pairwise (· ≤ ·) → Same H H' → H' t = some (.tup (ks.map V.int)) → Q (.ref t) H')
section
variable {P : Program} {w : World} {K : PySem.W.Frag} {mg : Str → Option Value} {base : Heap} {f C CH CS CW CD CI CT CU CM : Addr} {fd : FuncData}
theorem scCheck : FnScope ["swap"] ["swap"] (defScope sCheckSwap) := ⟨rfl, rfl, rfl, by decide +kernel, rfl, by decide +kernel, by decide +kernel⟩
theorem ok_check (G : Glob mg) (R : SwapF K CS) (gS : mg "Swap" = some (.ref CS)) (B : Errs P w K mg base CW CD CI CT CU CM) (F : DefAt K "check_swap" "check_swap" sCheckSwap f fd) : FnOk P w K mg base (L2.CX P w) 3 f fd ["swap"] (spCheck K C CH CS CW) := by
  refine okX F scCheck (fun vs H Q E ⟨v, e, _⟩ => by rw [e]; rfl) (fun cdv A outer s H vs Q E hr ⟨v, e, h⟩ => ?_)
  subst e
  have tk : Takes (cxOf (L2.CX P w) P w K mg base ["swap"] "check_swap" (defScope sCheckSwap) f cdv A outer s H E) (fun cls d _ H' => E cls d H') := takes_of rfl rfl rfl rfl
  refine ⟨_, pss_one (ps_if (pt_not (pt_val (pe_callB call_isi (by rfl) G.isi (by decide +kernel) (pa_cons (pv 0) (pa_cons (pe_glob (v := .ref CS) rfl gS rfl) pa_nil))))) (pss_one (ps_rs B.swap rfl tk hr (pa_cons pe_str pa_nil))) pss_nil), ?_⟩
  rcases h with ⟨a, ns, hs, rfl, ⟨dx, pp, ph, pn, as, nas, h1, _⟩, q⟩ | ⟨⟨t, ty, k1⟩, q⟩
  · exact ⟨_, rfl, _, _, _, _, _, rfl, .own CS, .base (R.ty h1), R.me, true, rfl, iteF q⟩
  · exact ⟨_, rfl, _, _, _, _, _, rfl, .own CS, .base ty, k1, false, rfl, iteT (rs_c q)⟩
/-- the length of a swap, the def itself -/
structure LenO (P : Program) (w : World) (K : PySem.W.Frag) (mg : Str → Option Value) (base : Heap) (C CH CS : Addr) : Prop where
  o : Own P w K mg base CS CX0 1 "__len__" ["self"] (spLen C CH CS)
theorem scDoneSet : FnScope ["swap", "done"] ["swap", "done"] (defScope sDoneSet) := ⟨rfl, rfl, rfl, by decide +kernel, rfl, by decide +kernel, by decide +kernel⟩
abbrev HasCheck (P : Program) (w : World) (K : PySem.W.Frag) (mg : Str → Option Value) (base : Heap) (C CH CS CW : Addr) : Prop := Has P w K mg base (L2.CX P w) 3 "check_swap" ["swap"] (spCheck K C CH CS CW)
theorem ok_doneSet (G : Glob mg) (HC : HasCheck P w K mg base C CH CS CW) (HD : HasDone P w K mg base CD CI CT) (OL : LenO P w K mg base C CH CS) (F : DefAt K "done_set" "done_set" sDoneSet f fd) : FnOk P w K mg base (L2.CX P w) 7 f fd ["swap", "done"] (spDoneSet K C CH CS CW CD CI CT) := by
  obtain ⟨fc, fdc, mC, kC, bC, GC⟩ := HC.h
  obtain ⟨fd_, fdd, mD, kD, bD, GD⟩ := HD.h
  obtain ⟨fl, fdl, ML, bL, GL⟩ := OL.o.h
  refine okX F scDoneSet (fun vs H Q E ⟨u, v, e, _⟩ => by rw [e]; rfl) (fun cdv A outer s H vs Q E hr ⟨u, v, e, h⟩ => ?_)
  subst e
  have tk : Takes (cxOf (L2.CX P w) P w K mg base ["swap", "done"] "done_set" (defScope sDoneSet) f cdv A outer s H E) (fun cls d _ H' => E cls d H') := takes_of rfl rfl rfl rfl
  have ps := passes_call tk (E := E) fun _ _ _ _ z => z
  refine ⟨_, pss_cons (ps_expr (pe_call GC (hr.mono (by decide)) rfl mC kC bC .nil ps (pa_cons (pv 0) pa_nil)))
    (pss_one (ps_ret (pe_call GD hr rfl mD kD bD .nil ps (pa_cons (pe_callB (call_lenO ML GL (hr.mono (by decide)) bL pass0) (by rfl) G.len PySem.boot_len (pa_cons (pv 0) pa_nil)) (pa_cons (pv 1) (pa_cons pe_str pa_nil)))))), ?_⟩
  rcases h with ⟨ns, q⟩ | ⟨a, ns, hs, rfl, ha, l, q⟩
  · exact ⟨_, rfl, u, rfl, .inr ⟨ns, q⟩⟩
  · refine ⟨_, rfl, _, rfl, .inl ⟨a, ns, hs, rfl, ha, ?_⟩⟩
    obtain ⟨dx, pp, ph, pn, as, nas, h1, _⟩ := id ha
    exact ⟨_, rfl, a, dx, _, rfl, h1, a, ns, hs, rfl, ha, _, rfl, by omega, by omega, _, rfl, _, _, _, rfl, q⟩
/-! ### sums -/
/-- the sum that one has at a done set -/
def effs (hs : List Hnd) (ks : List Nat) (n : Str) : Int := (ks.map fun k => match hs[k]? with | some h => h.eff n | none => 0).sum
def kV (ks : List Nat) : List V := ks.map fun k : Nat => V.int k
def spEffects (C CH CS : Addr) : Sp := fun vs H Q _ => ∃ a t ns hs n, ∃ ks : List Nat, vs = [.ref a, .ref t, .str n] ∧ SwAt C CH CS H a ns hs ∧ (∀ h ∈ hs, HnOk h) ∧ SqA H t (kV ks) ∧ (∀ k ∈ ks, k < hs.length) ∧ ks.length ≤ 100 ∧ ∀ p H', Same H H' → H p = none → Six C H' p (effs hs ks n) → Q (.ref p) H'
/-- swap[number] -/
structure ItemO (P : Program) (w : World) (K : PySem.W.Frag) (mg : Str → Option Value) (base : Heap) (C CH CS : Addr) : Prop where
  h : ∃ f fd, OwnM K CS "__getitem__" f ∧ PySem.W.fnIn K f = true ∧ Binds K fd ["self", "at"] [] ∧ FnOk P w K mg base CX0 5 f fd ["self", "at"] (spItem C CH CS)
theorem scEffects : FnScope ["swap", "numbers", "name", "number"] ["swap", "numbers", "name"] (defScope sEffects) := ⟨rfl, rfl, rfl, by decide +kernel, rfl, by decide +kernel, by decide +kernel⟩
theorem ok_effects (RH : HandF K CH) (IO : ItemO P w K mg base C CH CS) (EM : EffM P w K mg base C CH) (HA : HasAdded P w K mg base C) (F : DefAt K "_effects_on" "_effects_on" sEffects f fd) : FnOk P w K mg base CX0 7 f fd ["swap", "numbers", "name"] (spEffects C CH CS) := by
  obtain ⟨fi, fdi, Mi, ki, bI, GI⟩ := IO.h
  obtain ⟨fe, fde, Me, bE, GE⟩ := EM.h
  obtain ⟨fa, fda, mA, kA, bA, GA⟩ := HA.h
  refine okN F scEffects (fun vs H Q E ⟨a, t, ns, hs, n, ks, e, _⟩ => by rw [e]; rfl) (fun cdv A outer s H vs Q E hr ⟨a, t, ns, hs, n, ks, e, ha, ok, sq, lt, l, q⟩ => ?_)
  subst e
  refine ⟨_, pss_one (ps_ret (pe_call GA hr rfl mA kA bA .nil pass0 (pa_cons
    (pe_lc (own := [("number", 3)]) (g := gName 3) (tt := tYes) rfl scEffects.nd (pi_seq (pv 1)) (blkOk_by (N := ["swap", "numbers", "name", "number"]) (sc := defScope sEffects) (by decide +kernel))
      (fun _ _ _ _ _ => pg_name (i := 3) scEffects.nd rfl (Or.inl rfl)) (fun _ _ _ _ _ => pts_nil)
      (fun _ _ _ _ _ => pe_meth (pe_itemO (E := E0) Mi ki GI hr bI pass0 (pv 0) (pv 3)) RH.cl Me GE (hr.mono (by decide)) bE .nil pass0 (pa_cons (pv 2) pa_nil))) pa_nil))), ?_⟩
  have sz : sizeLine = 16777216 := sizeLine_eq
  refine ⟨_, rfl, t, rfl, ?_⟩
  refine lc_seqA sq fun D hD => ⟨fun i H2 => Same H H2 ∧ SixL C H2 D ((ks.take i).map fun k => match hs[k]? with | some h => h.eff n | none => 0), ⟨upd_new hD, [], upd_same, .nil⟩, fun i H2 _ z => ?_, ?_, ?_⟩
  · obtain ⟨o, e⟩ := sq.there
    rw [e, z.1 _ _ e]
  · rintro i x H2 hx ⟨s2, sl2⟩
    obtain ⟨k, ek, rfl⟩ := map_at hx
    have hk := lt k (List.mem_of_getElem? ek)
    have li := (List.getElem?_eq_some_iff.mp ek).1
    have eh : hs[k]? = some hs[k] := List.getElem?_eq_getElem hk
    have sw2 := ha.same s2
    obtain ⟨dx, pp, ph, pn, as, nas, h1, _⟩ := id sw2
    refine ⟨rfl, yes_of ⟨_, rfl, _, rfl, a, dx, _, rfl, h1, a, ns, hs, (k : Int), hs[k], rfl, sw2, by omega, by rw [Int.toNat_natCast]; exact eh, fun p H3 s3 hp => ?_⟩⟩
    obtain ⟨dy, pc, pd, z1, _, _⟩ := id hp
    refine ⟨p, dy, _, rfl, z1, no_eff _ _ _ _, _, rfl, p, hs[k], n, rfl, hp, ok _ (List.mem_of_getElem? eh), fun p' H4 s4 hp' => ?_⟩
    obtain ⟨qs, hd, al⟩ := (sl2.same s3).same s4
    refine ⟨_, hd, ?_, same_upd hD ((s2.trans s3).trans s4), qs ++ [p'], by rw [upd_same, List.map_append]; rfl, ?_⟩
    · rw [List.length_map, al.1, List.length_map, List.length_take]; omega
    · rw [take_more ek, List.map_append]
      refine All2.snoc (al.mono fun u v z => six_upd hd z) (six_upd hd ?_)
      show Six C H4 p' (match hs[k]? with | some h => h.eff n | none => 0)
      rw [eh]
      exact hp'
  · rintro H2 ⟨s2, sl2⟩
    rw [show (kV ks).length = ks.length from List.length_map _, List.take_length] at sl2
    refine ⟨D, _, rfl, sl2, ⟨by rw [List.length_map]; exact l, fun x hx => ?_⟩, fun p H3 s3 np hp => q p H3 (s2.trans s3) (s2.free np) hp⟩
    obtain ⟨k, mk, rfl⟩ := List.mem_map.mp hx
    rw [List.getElem?_eq_getElem (lt k mk)]
    exact eff_sm (ok _ (List.getElem_mem _)) n
end
end K5

/-! k05: sums, portion. -/
namespace K5
open PySem PySem.Spec PyProof.Rows L2 LamX K1 K18

theorem nd_len {l : List Nat} {m : Nat} (nd : l.Nodup) (h : ∀ x ∈ l, x < m) : l.length ≤ m := by
  have := List.Nodup.length_le_of_subset (l₂ := List.range m) nd fun x hx => List.mem_range.mpr (h x hx)
  rwa [List.length_range] at this
abbrev nI (ks : List Nat) : List Int := ks.map fun k : Nat => (k : Int)
theorem kV_eq (ks : List Nat) : kV ks = (nI ks).map V.int := by unfold kV nI; rw [List.map_map]; rfl
theorem asc_nd {ks : List Nat} (h : ks.Pairwise (· < ·)) : ks.Nodup := h.imp fun h => Nat.ne_of_lt h
theorem nI_nd {ks : List Nat} (h : ks.Nodup) : (nI ks).Nodup := by
  refine List.pairwise_map.mpr (h.imp fun {a b} z e => z (by omega))
/-- ints sorted, a permutation of ascending numbers: those -/
theorem sorted_is {js : List Int} {ks : List Nat} (p : js.Perm (nI ks)) (s : js.Pairwise (· ≤ ·)) (a : ks.Pairwise (· < ·)) : js = nI ks := by
  refine List.Perm.eq_of_pairwise (le := (· ≤ ·)) (fun a b _ _ x y => by omega) s ?_ p
  exact List.pairwise_map.mpr (a.imp fun h => by omega)
theorem nI_perm {ms ks : List Nat} (p : ms.Perm ks) : (nI ms).Perm (nI ks) := p.map _
section
variable {K : PySem.W.Frag} {CD CI CT : Addr} {H : Hp} {E : XK}
/-- good numbers, in any order -/
theorem handsW_good {b : Addr} {ms ks : List Nat} {m : Nat} {part : V} {k : List Int → Addr → Prop} (sq : SqA H b (kV ms)) (p : ms.Perm ks) (a : ks.Pairwise (· < ·)) (lt : ∀ x ∈ ks, x < m) (l : ks.length ≤ 1000) (go : k (nI ms) b) : HandsW K CD CI CT (m : Nat) (.ref b) part H E k := by
  have nd : ms.Nodup := p.symm.nodup (asc_nd a)
  have ltm : ∀ x ∈ ms, x < m := fun x hx => lt x (p.mem_iff.mp hx)
  have lm := p.length_eq
  refine .inr ⟨b, nI ms, rfl, by rw [← kV_eq]; exact sq, by rw [List.length_map]; omega, fun i n hn bad _ => ?_, fun _ i n dup => ?_, fun _ _ => go⟩
  · obtain ⟨x, hx, rfl⟩ := map_at hn
    exact absurd ⟨by omega, by have := ltm x (List.mem_of_getElem? hx); omega⟩ bad
  · obtain ⟨h1, h2, _⟩ := dup
    have z : ((nI ms).take (i + 1)).Nodup := (nI_nd nd).sublist (List.take_sublist _ _)
    rw [take_more h1] at z
    exact absurd rfl ((List.nodup_append.mp z).2.2 n h2 n (by simp))
end
section
variable {P : Program} {w : World} {K : PySem.W.Frag} {mg : Str → Option Value} {base : Heap} {f C CH CS CW CD CI CT CU CM : Addr} {fd : FuncData}
abbrev HasDoneSet (P : Program) (w : World) (K : PySem.W.Frag) (mg : Str → Option Value) (base : Heap) (C CH CS CW CD CI CT : Addr) : Prop := Has P w K mg base (L2.CX P w) 7 "done_set" ["swap", "done"] (spDoneSet K C CH CS CW CD CI CT)
abbrev HasEffects (P : Program) (w : World) (K : PySem.W.Frag) (mg : Str → Option Value) (base : Heap) (C CH CS : Addr) : Prop := Has P w K mg base CX0 7 "_effects_on" ["swap", "numbers", "name"] (spEffects C CH CS)
end
end K5

/-! k05: the law's pen, draw, pick. -/
namespace K5
open PySem PySem.Spec PyProof.Rows L2 LamX K1 K18

/-- ** of ints of any size, the power's bits bounded -/
def CPowV (i j : Int) : Prop := 0 ≤ j ∧ j ≤ 1000 ∧ i.natAbs.log2 < 10000
theorem op_powV {X : Cx} : OpR X (binaryOp .Pow) (rI CPowV fun i j => .int (i ^ j.toNat)) := opI fun i j _ _ _ _ _ hc q => by
  obtain ⟨h0, h1, h2⟩ := hc
  have b : (Builtin.Int.intBits i : Int) ≤ 10000 := by
    have : Builtin.Int.intBits i ≤ i.natAbs.log2 + 1 := by unfold Builtin.Int.intBits; split <;> omega
    omega
  have c : (Builtin.Int.intBits i : Int) * j ≤ 10000 * 1000 := Int.le_trans (Int.mul_le_mul_of_nonneg_right b h0) (Int.mul_le_mul_of_nonneg_left h1 (by decide))
  exact pow_int h0 (Int.le_trans c (by decide)) q
/-- the pen: its cells, how many draws were begun (n at most), the rest of a great one -/
def Pen (H : Hp) (p c : Addr) (n : Nat) : Prop := ∃ (cs : List Int) (t r : Int), H p = some (.lst [.ref c, .int t, .int r]) ∧ H c = some (.lst (cs.map V.int)) ∧ cs.length ≤ 63 ∧ 0 ≤ t ∧ t ≤ n
theorem Pen.same {H H' : Hp} {p c : Addr} {n : Nat} (s : Same H H') (h : Pen H p c n) : Pen H' p c n := let ⟨cs, t, r, a, b, z⟩ := h; ⟨cs, t, r, s _ _ a, s _ _ b, z⟩
theorem Pen.mono {H : Hp} {p c : Addr} {n k : Nat} (h : Pen H p c n) (l : n ≤ k) : Pen H p c k := let ⟨cs, t, r, a, b, z, u, v⟩ := h; ⟨cs, t, r, a, b, z, u, by omega⟩
theorem Pen.upd {H : Hp} {p c a : Addr} {o : HO} {n : Nat} (h : Pen H p c n) (h1 : p ≠ a) (h2 : c ≠ a) : Pen (upd H a o) p c n := let ⟨cs, t, r, x, y, z⟩ := h; ⟨cs, t, r, (upd_ne h1).trans x, (upd_ne h2).trans y, z⟩
theorem Pen.ne {H : Hp} {p c a : Addr} {n : Nat} (h : Pen H p c n) (e : H a = none) : p ≠ a ∧ c ≠ a := let ⟨_, _, _, x, y, _⟩ := h; ⟨ne_of_none x e, ne_of_none y e⟩
def spPen (K : PySem.W.Frag) : Sp := fun vs H Q _ => ∃ (a : Addr) (ns : List Int), vs = [.ref a] ∧ SqL K H a (ns.map V.int) ∧ ns.length ≤ 63 ∧ ∀ (p c : Addr) (H' : Hp), Same H H' → H p = none → H c = none → Pen H' p c 0 → Q (.ref p) H'
def spDraw : Sp := fun vs H Q _ => ∃ (p c : Addr) (m : Int) (n : Nat), vs = [.ref p, .int m] ∧ Pen H p c n ∧ n < 100000 ∧ 0 < m ∧ m < 2 ^ 64 ∧ ∀ (r : Int) (H' : Hp), 0 ≤ r → r < m → Keep p H H' → Pen H' p c (n + 1) → Q (.int r) H'
theorem cut_in {xs : List V} {lo hi : Option Int} {i : Nat} {x : V} (h : (cutV xs lo hi)[i]? = some x) : x ∈ xs := List.mem_of_mem_drop (List.mem_of_mem_take (List.mem_of_getElem? h))
theorem cut_le {xs : List V} {lo hi : Option Int} : (cutV xs lo hi).length ≤ xs.length := by
  unfold cutV
  rw [List.length_take, List.length_drop]
  omega
section
variable {P : Program} {w : World} {K : PySem.W.Frag} {mg : Str → Option Value} {base : Heap} {f : Addr} {fd : FuncData}
abbrev nPen : List Str := ["_law_script", "_law_cell"]
theorem scPen : FnScope nPen ["_law_script"] (defScope sPen) := ⟨rfl, rfl, rfl, by decide +kernel, rfl, by decide +kernel, by decide +kernel⟩
theorem ok_pen (G : Glob mg) (F : DefAt K "_law_pen" "_law_pen" sPen f fd) : FnOk P w K mg base CX0 1 f fd ["_law_script"] (spPen K) := by
  refine okN F scPen (fun vs H Q E ⟨a, ns, e, _⟩ => by rw [e]; rfl) (fun cdv A outer s H vs Q E hr ⟨a, ns, e, sq, l, q⟩ => ?_)
  subst e
  refine ⟨_, pss_one (ps_ret (pe_lst (pa_cons
    (pe_lc (own := [("_law_cell", 1)]) (g := gName 1) (tt := tYes) rfl scPen.nd (pi_list (pe_slice sl_list (pv 0) po_none (po_some pe_int))) (blkOk_by (N := nPen) (sc := defScope sPen) (by decide +kernel))
      (fun _ _ _ _ _ => pg_name (i := 1) scPen.nd rfl (Or.inl rfl)) (fun _ _ _ _ _ => pts_nil) (fun _ _ _ _ _ => pe_callTy call_int1 (by rfl) G.int (by decide +kernel) (pa_cons (pv 1) pa_nil)))
    (pa_cons pe_int (pa_cons pe_int pa_nil))))), ?_⟩
  refine ⟨_, rfl, 60, rfl, a, _, rfl, sq, fun p0 np0 => ?_⟩
  have s0 := upd_new (o := .lst (cutV (ns.map V.int) none (some 60))) np0
  have lc : (cutV (ns.map V.int) none (some 60)).length ≤ 63 := by
    refine Nat.le_trans cut_le ?_
    rw [List.length_map]
    exact l
  refine ⟨p0, rfl, ⟨_, SqL.of upd_same⟩, fun D hD => ?_⟩
  have hp0 : upd H p0 (.lst (cutV (ns.map V.int) none (some 60))) p0 = some (.lst (cutV (ns.map V.int) none (some 60))) := upd_same
  have pD : p0 ≠ D := ne_of_none hp0 hD
  refine lc_list (K := K) (a := p0) (xs := cutV (ns.map V.int) none (some 60)) (fun i H2 => ∃ cs : List Int, cs.length = i ∧ H2 = upd (upd H p0 (.lst (cutV (ns.map V.int) none (some 60)))) D (.lst (cs.map V.int)))
    ⟨[], rfl, rfl⟩ (fun i H2 _ ⟨cs, _, e⟩ => by rw [e]; exact SqL.of ((upd_ne pD).trans hp0)) ?_ ?_
  · rintro i y H2 hy ⟨cs, lcs, rfl⟩
    obtain ⟨n, _, rfl⟩ := List.mem_map.mp (cut_in hy)
    have hi := (List.getElem?_eq_some_iff.mp hy).1
    refine ⟨rfl, yes_of ⟨_, rfl, .inl ⟨_, rfl, _, upd_same, ?_, cs ++ [n], by simp [lcs], ?_⟩⟩⟩
    · rw [List.length_map, sizeLine_eq]; omega
    · rw [upd_upd, List.map_append]
      rfl
  · rintro H2 ⟨cs, lcs, rfl⟩
    refine ⟨(by show 3 ≤ sizeLine; decide), fun p hp => ?_⟩
    have s2 : Same H (upd (upd H p0 (.lst (cutV (ns.map V.int) none (some 60)))) D (.lst (cs.map V.int))) := fun b o e => by rw [upd_ne (ne_of_none (s0 _ _ e) hD)]; exact s0 _ _ e
    refine q p D _ (s2.trans (upd_new hp)) (s2.free hp) (s0.free hD) ⟨cs, 0, 0, upd_same, upd_new hp _ _ upd_same, by omega, by decide, by decide⟩
theorem eqvAll_map {α : Type} [DecidableEq α] {f : α → PyData} (h : ∀ a b, PyData.eqv (f a) (f b) = decide (a = b)) : ∀ as bs : List α, PyData.eqvAll (as.map f) (bs.map f) = decide (as = bs)
  | [], [] => by simp [PyData.eqvAll]
  | [], _ :: _ => by simp [PyData.eqvAll]
  | _ :: _, [] => by simp [PyData.eqvAll]
  | a :: as, b :: bs => by
    rw [List.map_cons, List.map_cons, PyData.eqvAll, h, eqvAll_map h as bs]
    by_cases e : a = b <;> by_cases e2 : as = bs <;> simp [e, e2]
theorem lay_all {α : Type} {f : α → PyData} (h : ∀ a, (f a).canLay0 = true) : ∀ as : List α, PyData.canLayAll0 (as.map f) = true
  | [] => rfl
  | a :: as => by rw [List.map_cons, PyData.canLayAll0, h a, lay_all h as]; rfl
theorem deep_all {α : Type} {f : α → PyData} (h : ∀ a, (f a).depth ≤ 8) : ∀ as : List α, PyData.depthAll (as.map f) ≤ 8
  | [] => by simp [PyData.depthAll]
  | a :: as => by
    rw [List.map_cons, PyData.depthAll]
    have := h a
    have := deep_all h as
    omega
theorem shaped_tup {α : Type} {f : α → PyData} (h : ∀ a, (f a).canLay0 = true) (d : ∀ a, (f a).depth ≤ 8) (as : List α) : SeqAt.shaped (.tuple (as.map f)) = true ∧ SeqAt.shaped (.list (as.map f)) = true := by
  have l := lay_all h as
  have e := deep_all d as
  constructor
  · show (PyData.canLay0 (.tuple (as.map f)) && decide (PyData.depth (.tuple (as.map f)) ≤ 64)) = true
    rw [PyData.canLay0, l, PyData.depth, decide_eq_true (by omega)]; rfl
  · show (PyData.canLay0 (.list (as.map f)) && decide (PyData.depth (.list (as.map f)) ≤ 64)) = true
    rw [PyData.canLay0, l, PyData.depth, decide_eq_true (by omega)]; rfl
theorem dps_I {K : PySem.W.Frag} {H : Hp} : ∀ l : List Int, DpAll K H (l.map V.int) (l.map PyData.int)
  | [] => .nil
  | n :: l => .cons (.int n) (dps_I l)
theorem sh_lI (l : List Int) : SeqAt.shaped (.list (l.map PyData.int)) = true := (shaped_tup (f := PyData.int) (fun n => by simp [PyData.canLay0]) (fun n => by simp [PyData.depth]) l).2
theorem sh_tI (l : List Int) : SeqAt.shaped (.tuple (l.map PyData.int)) = true := (shaped_tup (f := PyData.int) (fun n => by simp [PyData.canLay0]) (fun n => by simp [PyData.depth]) l).1
theorem eqv_nil {l : List PyData} : PyData.eqv (.list l) (.list []) = decide (l = []) := by
  rw [PyData.eqv]
  cases l with
  | nil => simp [PyData.eqvAll]
  | cons a l => simp [PyData.eqvAll]
theorem log2_of {i : Int} {b : Nat} (h : i.natAbs < 2 ^ b) (h0 : 0 < b) (h9 : b ≤ 10000) : i.natAbs.log2 < 10000 := Nat.lt_of_lt_of_le (PySem.Flt.log2_lt_of h0 h) h9
/-- a test that only reads, whatever it says -/
theorem if_any {tt : TT} {A B C : TS} {D : Ends} {σ : L2.St} {H : Hp} (h : ∀ Q' : Bool → Hp → Prop, (∀ b, Q' b H) → tt σ H Q') (go : ∀ b : Bool, if b = true then A { D with nx := C D } σ H else B { D with nx := C D } σ H) : tSeq (tIfS tt A B) C D σ H := h _ go
/-- one name set, if so -/
theorem asg_if {b : Bool} {te : TE} {k : Nat} {D : Ends} {σ : L2.St} {H : Hp} (ok : V → Prop) (val : b = true → ∀ Q : VK, (∀ v, ok v → Q v H) → te σ H Q) (els : b = false → ∃ v, σ[k]? = some (some v) ∧ ok v) (go : ∀ v, ok v → D.nx (σ.set k (some v)) H) :
    if b = true then tAsg te (gName k) D σ H else D.nx σ H := by
  cases b with
  | true => exact iteT (val rfl _ fun v hv => go v hv)
  | false =>
    obtain ⟨v, e, hv⟩ := els rfl
    have z := go v hv
    obtain ⟨hk, e2⟩ := List.getElem?_eq_some_iff.mp e
    rw [← e2, List.set_getElem_self] at z
    exact iteF z
theorem theKeep {p : Addr} {H H' : Hp} (s : Same H H') : Keep p H H' := fun c o _ e => s c o e
abbrev nDraw : List Str := ["_law_pen_here", "_law_many", "_law_digit", "_law_at", "_law_cell", "_law_great", "_law_mixed"]
theorem scDraw : FnScope nDraw ["_law_pen_here", "_law_many"] (defScope sDraw) := ⟨rfl, rfl, rfl, by decide +kernel, rfl, by decide +kernel, by decide +kernel⟩
theorem ok_draw (G : Glob mg) (F : DefAt K "_law_draw" "_law_draw" sDraw f fd) : FnOk P w K mg base CX0 1 f fd ["_law_pen_here", "_law_many"] spDraw := by
  refine okN F scDraw (fun vs H Q E ⟨p, c, m, n, e, _⟩ => by rw [e]; rfl) (fun cdv A outer s H vs Q E hr ⟨p, c, m, n, e, sk, hn, m0, m1, q⟩ => ?_)
  subst e
  have hu64 : (A.deeper (envOfC "_law_draw" (defScope sDraw) s.heap.objs.size f cdv)).units + 64 < cLine := by have := hr.un; omega
  refine ⟨_, pss_cons (ps_if (pt_cmpR op_gt (pe_ix ix_list (pv 0) pe_int (fun _ _ => rfl)) pe_int (nomark _))
      (pss_cons (ps_set (i := 2) scDraw.nd rfl (Or.inl rfl) (pe_op op_mod (pe_callTy call_int1 (by rfl) G.int (by decide +kernel) (pa_cons (pe_ix ix_list (pv 0) pe_int (fun _ _ => rfl)) pa_nil)) (pv 1)))
      (pss_cons (ps_asg (pe_op op_fdivW (pe_callTy call_int1 (by rfl) G.int (by decide +kernel) (pa_cons (pe_ix ix_list (pv 0) pe_int (fun _ _ => rfl)) pa_nil)) (pv 1)) (pg_sub (pv 0) pe_int set_list))
      (pss_one (ps_ret (pv 2))))) pss_nil)
    (pss_cons (ps_set (i := 3) scDraw.nd rfl (Or.inl rfl) (pe_ix ix_list (pv 0) pe_int (fun _ _ => rfl)))
    (pss_cons (ps_asg (pe_op op_add (pv 3) pe_int) (pg_sub (pv 0) pe_int set_list))
    (pss_cons (ps_set (i := 4) scDraw.nd rfl (Or.inl rfl) (pe_op op_add (pe_op op_mul pe_int (pv 3)) pe_int))
    (pss_cons (ps_if (pt_cmpR (op_neD hu64) (pe_ix ix_list (pv 0) pe_int (fun _ _ => rfl)) (pe_lst pa_nil) (nomark _))
      (pss_one (ps_set (i := 4) scDraw.nd rfl (Or.inl rfl) (pe_ix ix_list (pe_ix ix_list (pv 0) pe_int (fun _ _ => rfl)) (pe_op op_mod (pe_callTy call_int1 (by rfl) G.int (by decide +kernel) (pa_cons (pv 3) pa_nil))
        (pe_callB (r := rLenA K) (call_lenA rfl) (by rfl) G.len PySem.boot_len (pa_cons (pe_ix ix_list (pv 0) pe_int (fun _ _ => rfl)) pa_nil))) (fun _ _ => rfl)))) pss_nil)
    (pss_cons (ps_if (PW.pt (pw_and (pt_cmpR op_lt (pv 3) (pe_callB (r := rLenA K) (call_lenA rfl) (by rfl) G.len PySem.boot_len (pa_cons (pe_ix ix_list (pv 0) pe_int (fun _ _ => rfl)) pa_nil)) (nomark _))
        (pw_and1 (pt_cmpR op_ge (pe_callB call_abs (by rfl) G.abs (by decide +kernel) (pa_cons (pv 4) pa_nil)) (pe_op op_pow pe_int pe_int) (nomark _)))))
      (pss_cons (ps_set (i := 5) scDraw.nd rfl (Or.inl rfl) (pe_op op_add (pe_op op_mul pe_int (pe_op op_sub (pe_callB call_abs (by rfl) G.abs (by decide +kernel) (pa_cons (pv 4) pa_nil)) (pe_op op_pow pe_int pe_int)))
        (pe_callTy call_int1 (by rfl) G.int (by decide +kernel) (pa_cons (pe_cmpR op_lt (pv 4) pe_int (nomark _)) pa_nil))))
      (pss_cons (ps_asg (pe_op op_fdivW (pe_callTy call_int1 (by rfl) G.int (by decide +kernel) (pa_cons (pv 5) pa_nil)) (pv 1)) (pg_sub (pv 0) pe_int set_list))
      (pss_one (ps_ret (pe_op op_mod (pe_callTy call_int1 (by rfl) G.int (by decide +kernel) (pa_cons (pv 5) pa_nil)) (pv 1)))))) pss_nil)
    (pss_cons (ps_set (i := 6) scDraw.nd rfl (Or.inl rfl) (pe_op op_mod (pe_callTy call_int1 (by rfl) G.int (by decide +kernel) (pa_cons
        (pe_op op_powV (pe_op op_add (pe_op op_add (pe_op op_mod (pe_callTy call_int1 (by rfl) G.int (by decide +kernel) (pa_cons (pv 4) pa_nil)) pe_int) (pe_op op_mul pe_int (pv 3))) pe_int) pe_int) pa_nil)) pe_int))
    (pss_cons (ps_set (i := 6) scDraw.nd rfl (Or.inl rfl) (pe_op op_mod (pe_callTy call_int1 (by rfl) G.int (by decide +kernel) (pa_cons
        (pe_op op_powV (pe_op op_add (pe_op op_add (pe_op op_mul (pv 6) (pe_op op_add (pe_op op_mul pe_int (pv 3)) pe_int)) (pe_op op_mul (pe_op op_mul pe_int (pv 3)) (pv 3))) pe_int) pe_int) pa_nil)) pe_int))
    (pss_one (ps_ret (pe_op op_mod (pe_callTy call_int1 (by rfl) G.int (by decide +kernel) (pa_cons (pe_op op_fdiv (pv 6) pe_int) pa_nil)) (pv 1))))))))))), ?_⟩
  obtain ⟨cs, t, r, hp, hc, lc, t0, tn⟩ := sk
  have at0 : ∀ {a b c : V}, atI [a, b, c] 0 = some a := atI_nat (j := 0) rfl
  have at1 : ∀ {a b c : V}, atI [a, b, c] 1 = some b := atI_nat (j := 1) rfl
  have at2 : ∀ {a b c : V}, atI [a, b, c] 2 = some c := atI_nat (j := 2) rfl
  have cp : c ≠ p := by
    rintro rfl
    rw [hp] at hc
    injection hc with hc
    injection hc with hc
    cases cs with
    | nil => cases hc
    | cons a l => injection hc with h1 _; cases h1
  have dv : ∀ x, CDivW x m := fun x => wide_div (b := 300) m0 (by omega) (by decide) (by decide)
  have md : ∀ x : Int, 0 ≤ x % m ∧ x % m < m := fun x => ⟨Int.emod_nonneg _ (by omega), Int.emod_lt_of_pos _ m0⟩
  have fin : ∀ (H1 : Hp) (x t' r' : Int), Keep p H H1 → H1 p = some (.lst [.ref c, .int t', .int r']) → 0 ≤ t' → t' ≤ n + 1 → Q (.int (x % m)) H1 := fun H1 x t' r' k hp' z1 z2 =>
    q (x % m) H1 (md x).1 (md x).2 k ⟨cs, t', r', hp', k c _ cp hc, lc, z1, by omega⟩
  refine ⟨_, rfl, p, _, _, _, rfl, rfl, SqL.of hp, at2, _, _, rfl, rfl, _, rfl, ?_⟩
  by_cases hr0 : (0 : Int) < r
  · rw [decide_eq_true hr0]
    refine iteT ?_
    refine ⟨_, rfl, p, _, _, _, rfl, rfl, SqL.of hp, at2, .inl ⟨_, rfl, _, rfl, _, _, rfl, rfl, m0, ?_⟩⟩
    refine ⟨_, rfl, p, _, _, _, rfl, rfl, SqL.of hp, at2, .inl ⟨_, rfl, _, rfl, _, _, rfl, rfl, dv _, _, rfl, p, _, _, 2, rfl, rfl, hp, rfl, ?_⟩⟩
    exact ⟨_, rfl, fin _ r t (r / m) Keep.upd upd_same t0 (by omega)⟩
  rw [decide_eq_false hr0]
  refine iteF ?_
  refine ⟨_, rfl, p, _, _, _, rfl, rfl, SqL.of hp, at1, ?_⟩
  refine ⟨_, rfl, _, _, rfl, rfl, _, rfl, p, _, _, 1, rfl, rfl, hp, rfl, ?_⟩
  have hp1 : upd H p (.lst ([V.ref c, .int t, .int r].set 1 (.int (t + 1)))) p = some (.lst [.ref c, .int (t + 1), .int r]) := upd_same
  generalize eH1 : upd H p (.lst ([V.ref c, .int t, .int r].set 1 (.int (t + 1)))) = H1 at hp1 ⊢
  have k1 : Keep p H H1 := eH1 ▸ Keep.upd
  have hc1 := k1 c _ cp hc
  refine ⟨_, rfl, _, _, rfl, rfl, .inl ⟨by decide, by decide⟩, _, _, rfl, rfl, ?_⟩
  refine ⟨_, rfl, p, _, _, _, rfl, rfl, SqL.of hp1, at0, (by show 0 ≤ sizeLine; omega), fun e0 ne0 => ?_⟩
  have sE := upd_new (o := .lst []) ne0
  generalize eH2 : upd H1 e0 (.lst []) = H2 at sE ⊢
  have he0 : H2 e0 = some (.lst []) := eH2 ▸ upd_same
  have hp2 := sE _ _ hp1
  have hc2 := sE _ _ hc1
  have k2 : Keep p H H2 := k1.trans (theKeep sE)
  refine ⟨.list (cs.map PyData.int), .list [], .lst (SqL.of hc2) (dps_I cs), .lst (SqL.of he0) .nil, sh_lI cs, sh_lI [], _, rfl, ?_⟩
  rw [eqv_nil]
  refine asg_if (ok := fun v => ∃ i : Int, v = .int i) (fun hb Q2 k => ?_) (fun _ => ⟨_, rfl, _, rfl⟩) ?_
  · have ne : cs ≠ [] := by
      rintro rfl
      simp at hb
    have l0 : 0 < cs.length := List.length_pos_iff.mpr ne
    have j0 := Int.emod_nonneg t (show (cs.length : Int) ≠ 0 by omega)
    have j1 := Int.emod_lt_of_pos t (show (0 : Int) < cs.length by omega)
    refine ⟨_, rfl, p, _, _, _, rfl, rfl, SqL.of hp2, at0, ?_⟩
    refine ⟨_, rfl, .inl ⟨_, rfl, _, rfl, p, _, _, _, rfl, rfl, SqL.of hp2, at0, c, _, rfl, .inl (SqL.of hc2), ?_⟩⟩
    rw [List.length_map]
    refine ⟨_, _, rfl, rfl, (by omega), c, _, _, .int (cs.getD (t % (cs.length : Int)).toNat 0), rfl, rfl, SqL.of hc2, ?_, k _ ⟨_, rfl⟩⟩
    have e := atI_nat (xs := cs.map V.int) (j := (t % (cs.length : Int)).toNat) (v := .int (cs.getD (t % (cs.length : Int)).toNat 0)) (by
      rw [List.getElem?_map, List.getElem?_eq_getElem (by omega), List.getD_eq_getElem?_getD, List.getElem?_eq_getElem (by omega)]
      rfl)
    rwa [Int.toNat_of_nonneg j0] at e
  rintro _ ⟨v, rfl⟩
  dsimp only
  refine if_any (fun Q' k => ?_) fun b => ?_
  · refine ⟨_, rfl, _, rfl, p, _, _, _, rfl, rfl, SqL.of hp2, at0, c, _, rfl, .inl (SqL.of hc2), _, _, rfl, rfl, _, rfl, ?_⟩
    by_cases hb : t < (((cs.map V.int).length : Nat) : Int)
    · rw [decide_eq_true hb]
      exact iteT ⟨_, rfl, _, rfl, _, _, rfl, rfl, ⟨by decide, by decide, by decide⟩, _, _, rfl, rfl, _, rfl, k _⟩
    · rw [decide_eq_false hb]
      exact iteF (k _)
  have np : t * 40037 ≤ 100000 * 40037 := by omega
  cases b with
  | true =>
    refine iteT ⟨_, rfl, _, rfl, _, _, rfl, rfl, ⟨by decide, by decide, by decide⟩, _, _, rfl, rfl, _, _, rfl, rfl, .inl ⟨by decide, by decide⟩, ?_⟩
    refine ⟨_, rfl, _, _, rfl, rfl, .inr ⟨_, rfl, _, _, rfl, rfl, ?_⟩⟩
    refine ⟨_, rfl, .inl ⟨_, rfl, _, rfl, _, _, rfl, rfl, dv _, _, rfl, p, _, _, 2, rfl, rfl, hp2, rfl, ?_⟩⟩
    refine ⟨_, rfl, .inl ⟨_, rfl, _, rfl, _, _, rfl, rfl, m0, ?_⟩⟩
    exact fin _ _ (t + 1) _ (k2.trans Keep.upd) upd_same (by omega) (by omega)
  | false =>
    have a0 := Int.emod_nonneg v (show (2147483587 : Int) ≠ 0 by decide)
    have a1 := Int.emod_lt_of_pos v (show (0 : Int) < 2147483587 by decide)
    refine iteF ⟨_, rfl, .inl ⟨_, rfl, _, _, rfl, rfl, (show (0 : Int) < 2147483587 by decide), _, rfl, _, _, rfl, rfl, .inl ⟨by decide, by decide⟩, _, _, rfl, rfl, _, _, rfl, rfl, ?_⟩⟩
    have l1 : (v % 2147483587 + 52051 * t + 1471).natAbs < 2 ^ 64 := by omega
    refine ⟨_, _, rfl, rfl, ⟨by decide, by decide, log2_of l1 (by decide) (by decide)⟩, .inl ⟨_, rfl, _, _, rfl, rfl, (show (0 : Int) < 2147483629 by decide), ?_⟩⟩
    generalize (v % 2147483587 + 52051 * t + 1471) ^ Int.toNat 5 = z
    have b0 := Int.emod_nonneg z (show (2147483629 : Int) ≠ 0 by decide)
    have b1 := Int.emod_lt_of_pos z (show (0 : Int) < 2147483629 by decide)
    refine ⟨_, rfl, _, rfl, _, _, rfl, rfl, .inl ⟨by decide, by decide⟩, _, _, rfl, rfl, _, _, rfl, rfl, .inl ⟨by omega, by omega⟩, ?_⟩
    refine ⟨_, rfl, _, _, rfl, rfl, .inl ⟨by decide, by decide⟩, _, rfl, _, _, rfl, rfl, .inr ⟨by omega, by omega⟩, _, _, rfl, rfl, _, _, rfl, rfl, ?_⟩
    have e1 : 0 ≤ z % 2147483629 * (2 * t + 1733) ∧ z % 2147483629 * (2 * t + 1733) ≤ 2147483629 * 201733 := ⟨Int.mul_nonneg b0 (by omega), Int.mul_le_mul (by omega) (by omega) (by omega) (by decide)⟩
    have e2 : 0 ≤ 40037 * t * t ∧ 40037 * t * t ≤ 40037 * 100000 * 100000 := ⟨Int.mul_nonneg (by omega) t0, Int.mul_le_mul (by omega) (by omega) (by omega) (by decide)⟩
    have l2 : (z % 2147483629 * (2 * t + 1733) + 40037 * t * t + 52051).natAbs < 2 ^ 100 := by omega
    refine ⟨_, _, rfl, rfl, ⟨by decide, by decide, log2_of l2 (by decide) (by decide)⟩, .inl ⟨_, rfl, _, _, rfl, rfl, (show (0 : Int) < 2147483563 by decide), ?_⟩⟩
    refine ⟨_, rfl, _, _, rfl, rfl, ⟨by decide, by decide⟩, .inl ⟨_, rfl, _, rfl, _, _, rfl, rfl, m0, ?_⟩⟩
    exact fin _ _ (t + 1) _ k2 hp2 (by omega) (by omega)
end
end K5

/-! k05: the law's pick; texts by their signs. -/
namespace K5
open PySem PySem.Spec PyProof.Rows L2 LamX K1 K18

abbrev S (l : List Nat) : Str := SX.S l
abbrev HasDraw (P : Program) (w : World) (K : PySem.W.Frag) (mg : Str → Option Value) (base : Heap) : Prop := Has P w K mg base CX0 1 "_law_draw" ["_law_pen_here", "_law_many"] spDraw
def spPick : Sp := fun vs H Q _ => ∃ (p c b : Addr) (xs : List V) (n : Nat), vs = [.ref p, .ref b] ∧ SqA H b xs ∧ b ≠ p ∧ 0 < xs.length ∧ xs.length < 1000 ∧ Pen H p c n ∧ n < 100000 ∧ ∀ (i : Nat) (x : V) (H' : Hp), xs[i]? = some x → Keep p H H' → Pen H' p c (n + 1) → Q x H'
def spPickS : Sp := fun vs H Q _ => ∃ (p c : Addr) (l : List Nat) (n : Nat), vs = [.ref p, .str (S l)] ∧ 0 < l.length ∧ l.length < 1000 ∧ Pen H p c n ∧ n < 100000 ∧ ∀ (d : Nat) (H' : Hp), d ∈ l → Keep p H H' → Pen H' p c (n + 1) → Q (.str (S [d])) H'
abbrev HasPick (P : Program) (w : World) (K : PySem.W.Frag) (mg : Str → Option Value) (base : Heap) : Prop := Has P w K mg base CX0 2 "_law_pick" ["_law_pen_here", "_law_some"] spPick
abbrev HasPickS (P : Program) (w : World) (K : PySem.W.Frag) (mg : Str → Option Value) (base : Heap) : Prop := Has P w K mg base CX0 2 "_law_pick" ["_law_pen_here", "_law_some"] spPickS
section
variable {P : Program} {w : World} {K : PySem.W.Frag} {mg : Str → Option Value} {base : Heap} {f : Addr} {fd : FuncData}
theorem scPick : FnScope ["_law_pen_here", "_law_some"] ["_law_pen_here", "_law_some"] (defScope sPick) := ⟨rfl, rfl, rfl, by decide +kernel, rfl, by decide +kernel, by decide +kernel⟩
theorem ok_pick (G : Glob mg) (HT : HasDraw P w K mg base) (F : DefAt K "_law_pick" "_law_pick" sPick f fd) : FnOk P w K mg base CX0 2 f fd ["_law_pen_here", "_law_some"] spPick := by
  obtain ⟨ft, fdt, mT, kT, bT, GT⟩ := HT.h
  refine okN F scPick (fun vs H Q E ⟨p, c, b, xs, n, e, _⟩ => by rw [e]; rfl) (fun cdv A outer s H vs Q E hr ⟨p, c, b, xs, n, e, sq, bp, l0, l1, sk, hn, q⟩ => ?_)
  subst e
  refine ⟨_, pss_one (ps_ret (pe_ix ix_seq (pv 1) (pe_call GT hr rfl mT kT bT .nil pass0 (pa_cons (pv 0) (pa_cons (pe_callB (r := rLenA K) (call_lenA rfl) (by rfl) G.len PySem.boot_len (pa_cons (pv 1) pa_nil)) pa_nil))) (fun _ _ => rfl))), ?_⟩
  refine ⟨_, rfl, _, rfl, _, rfl, b, xs, rfl, sq.imp SqL.of SqT.of, p, c, _, n, rfl, sk, hn, by omega, by omega, fun r H' r0 r1 k s' => ?_⟩
  obtain ⟨j, rfl⟩ := Int.eq_ofNat_of_zero_le r0
  have hj : j < xs.length := by omega
  have z := q j _ H' (List.getElem?_eq_getElem hj) k s'
  rcases sq with sq | sq
  · exact .inl ⟨b, xs, j, _, rfl, rfl, SqL.of (k b _ bp sq), atI_nat (List.getElem?_eq_getElem hj), z⟩
  · exact .inr (.inl ⟨b, xs, j, _, rfl, rfl, SqT.of (k b _ bp sq), atI_nat (List.getElem?_eq_getElem hj), z⟩)
theorem ok_pickS (G : Glob mg) (HT : HasDraw P w K mg base) (F : DefAt K "_law_pick" "_law_pick" sPick f fd) : FnOk P w K mg base CX0 2 f fd ["_law_pen_here", "_law_some"] spPickS := by
  obtain ⟨ft, fdt, mT, kT, bT, GT⟩ := HT.h
  refine okN F scPick (fun vs H Q E ⟨p, c, l, n, e, _⟩ => by rw [e]; rfl) (fun cdv A outer s H vs Q E hr ⟨p, c, l, n, e, l0, l1, sk, hn, q⟩ => ?_)
  subst e
  refine ⟨_, pss_one (ps_ret (pe_ix ix_str (pv 1) (pe_call GT hr rfl mT kT bT .nil pass0 (pa_cons (pv 0) (pa_cons (pe_callB call_len_str (by rfl) G.len PySem.boot_len (pa_cons (pv 1) pa_nil)) pa_nil))) (fun _ _ => rfl))), ?_⟩
  have sz : sizeLine = 16777216 := sizeLine_eq
  have z1 : (S l).length = l.length := SX.S_len _
  refine ⟨_, rfl, _, rfl, _, rfl, _, rfl, by omega, p, c, _, n, rfl, sk, hn, by omega, by omega, fun r H' r0 r1 k s' => ?_⟩
  obtain ⟨j, rfl⟩ := Int.eq_ofNat_of_zero_le r0
  have hj : j < l.length := by omega
  exact ⟨S l, j, l[j], rfl, rfl, by omega, atI_nat (List.getElem?_eq_getElem hj), q _ H' (List.getElem_mem _) k s'⟩
end
/-! ### names that are drawn -/
def okA (c : Nat) : Bool := isL c || isD c
/-- a text that begins with a small letter, of small letters and digits -/
structure Nl (l : List Nat) : Prop where
  hd : ∃ c, l[0]? = some c ∧ isL c = true
  al : ∀ c ∈ l, okA c = true
theorem Nl.nm {l : List Nat} (h : Nl l) (l12 : l.length ≤ 12) : Nm (S l) := by
  obtain ⟨c, hc, lc⟩ := h.hd
  have := (List.getElem?_eq_some_iff.mp hc).1
  exact ⟨by rw [show (S l).length = l.length from SX.S_len _]; omega, by rw [show (S l).length = l.length from SX.S_len _]; exact l12, ⟨c, hc, lc⟩, fun d m => by
    have := h.al d m
    unfold okA at this
    exact Bool.or_eq_true_iff.mp this⟩
theorem Nl.app {l m : List Nat} (h : Nl l) (k : ∀ c ∈ m, okA c = true) : Nl (l ++ m) := by
  obtain ⟨c, hc, lc⟩ := h.hd
  refine ⟨⟨c, ?_, lc⟩, fun d md => (List.mem_append.mp md).elim (h.al d) (k d)⟩
  rw [List.getElem?_append_left (List.getElem?_eq_some_iff.mp hc).1]
  exact hc
def ends : List Nat := [97, 122, 48, 109, 107, 52]
/-- as the law draws names -/
def Drwn (n : Str) : Prop := ∃ l, n = S l ∧ Nl l ∧ (l.length ≤ 9 ∨ ∃ st s, l = st ++ [s] ∧ st.length = 11 ∧ s ∈ ends)
theorem Drwn.nm {n : Str} (h : Drwn n) : Nm n := by
  obtain ⟨l, rfl, nl, h⟩ := h
  refine nl.nm ?_
  rcases h with h | ⟨st, s, rfl, h, _⟩
  · omega
  · rw [List.length_append]; simp; omega
structure DrL (ns : List Str) (m : Nat) : Prop where
  len : ns.length = m
  nd : ns.Nodup
  dr : ∀ n ∈ ns, Drwn n
theorem joinL_nil : ∀ ps : List (List Nat), TL.joinL [] ps = ps.flatten
  | [] => rfl
  | [p] => by simp [TL.joinL]
  | p :: q :: r => by
    show p ++ ([] ++ TL.joinL [] (q :: r)) = _
    rw [joinL_nil (q :: r)]
    simp
theorem flat_one : ∀ l : List Nat, (l.map fun d => [d]).flatten = l
  | [] => rfl
  | a :: r => by simp [flat_one r]
/-- ''.join of one-sign texts -/
theorem join_one (l : List Nat) : Txt.join (S []) (l.map fun d => S [d]) = S l := by
  have z := SX.join_S [] (l.map fun d => [d])
  rw [joinL_nil, flat_one, List.map_map] at z
  exact z
theorem in_small {d : Nat} (h : d ∈ (Str.ofString "abcdefghijklmnopqrstuvwxyz").cps.toList) : isL d = true := by rw [← in_let]; exact decide_eq_true h
theorem in_signs {d : Nat} (h : d ∈ (Str.ofString "abcdefghijklmnopqrstuvwxyz0123456789").cps.toList) : okA d = true := by
  have e : (Str.ofString "abcdefghijklmnopqrstuvwxyz0123456789").cps.toList = (Str.ofString "abcdefghijklmnopqrstuvwxyz").cps.toList ++ (Str.ofString "0123456789").cps.toList := by decide +kernel
  rw [e] at h
  unfold okA
  rw [Bool.or_eq_true_iff, ← in_let, ← in_dig]
  exact (List.mem_append.mp h).imp decide_eq_true decide_eq_true
end K5

/-! k05: the law's names. -/
namespace K5
open PySem PySem.Spec PyProof.Rows L2 LamX K1 K18

def spLNames : Sp := fun vs H Q _ => ∃ (p c : Addr) (m n : Nat), vs = [.ref p, .int m] ∧ m ≤ 6 ∧ Pen H p c n ∧ n + 60 < 100000 ∧ ∀ (d : Addr) (ns : List Str) (H' : Hp), DrL ns m → Keep p H H' → H d = none → H' d = some (.lst (ns.map V.str)) → Pen H' p c (n + 50) → Q (.ref d) H'
abbrev nNames : List Str := ["_law_pen_here", "_law_many", "_law_small", "_law_signs", "_law_names_here", "_law_stem", "_law_sign", "_law_turn", "_law_name", "_law_at"]
abbrev aSmall : List Nat := (Str.ofString "abcdefghijklmnopqrstuvwxyz").cps.toList
abbrev aSigns : List Nat := (Str.ofString "abcdefghijklmnopqrstuvwxyz0123456789").cps.toList
theorem S_of (x : Str) : S x.cps.toList = x := SX.S_tl x
theorem small_len : aSmall.length = 26 := by decide +kernel
theorem signs_len : aSigns.length = 36 := by decide +kernel
/-- too many texts met: no room among so few names -/
theorem met_few {ns : List Str} {l : List Nat} {ps : List (List Nat)} (nd : ps.Nodup) (mem : ∀ x ∈ ps, S x ∈ ns) (hl : S l ∈ ns) (lt : ∀ x ∈ ps, x.length < l.length) (few : ns.length ≤ ps.length) : False := by
  have nd2 : ((l :: ps).map S).Nodup := by
    refine List.pairwise_map.mpr ((List.nodup_cons.mpr ⟨fun m => ?_, nd⟩).imp fun {x y} ne z => ne (SX.S_inj z))
    have := lt l m
    omega
  have := List.Nodup.length_le_of_subset nd2 (l₂ := ns) fun x hx => by
    obtain ⟨y, hy, rfl⟩ := List.mem_map.mp hx
    rcases List.mem_cons.mp hy with rfl | hy
    · exact hl
    · exact mem y hy
  rw [List.length_map, List.length_cons] at this
  omega
section
variable {P : Program} {w : World} {K : PySem.W.Frag} {mg : Str → Option Value} {base : Heap} {f : Addr} {fd : FuncData}
theorem scNames_ : FnScope nNames ["_law_pen_here", "_law_many"] (defScope sNames) := ⟨rfl, rfl, rfl, by decide +kernel, rfl, by decide +kernel, by decide +kernel⟩
theorem ok_lnames (G : Glob mg) (HT : HasDraw P w K mg base) (HP : HasPickS P w K mg base) (F : DefAt K "_law_names" "_law_names" sNames f fd) : FnOk P w K mg base CX0 3 f fd ["_law_pen_here", "_law_many"] spLNames := by
  obtain ⟨ft, fdt, mT, kT, bT, GT⟩ := HT.h
  obtain ⟨fp, fdp, mP, kP_, bP, GP⟩ := HP.h
  refine okN F scNames_ (fun vs H Q E ⟨p, c, m, n, e, _⟩ => by rw [e]; rfl) (fun cdv A outer s H vs Q E hr ⟨p, c, m, n, e, hm, pn, hn, q⟩ => ?_)
  subst e
  have r1 := hr.mono (show 1 ≤ 2 by decide)
  refine ⟨_, pss_cons (ps_asg (pe_tup (pa_cons pe_str (pa_cons pe_str (pa_cons (pe_lst pa_nil) pa_nil)))) (pg_tup (by rfl) (pgs_cons (pg_name (i := 2) scNames_.nd rfl (Or.inl rfl)) (pgs_cons (pg_name (i := 3) scNames_.nd rfl (Or.inr rfl)) (pgs_cons (pg_name (i := 4) scNames_.nd rfl (Or.inl rfl)) pgs_nil)))))
    (pss_cons (ps_if (pt_cmpR op_eq (pe_call GT r1 rfl mT kT bT .nil pass0 (pa_cons (pv 0) (pa_cons pe_int pa_nil))) pe_int (nomark _))
      (pss_cons (ps_set (i := 5) scNames_.nd rfl (Or.inr rfl) (pe_op op_add_str (pe_call GP hr rfl mP kP_ bP .nil pass0 (pa_cons (pv 0) (pa_cons (pv 2) pa_nil))) (pe_join pe_str
          (pe_lc (own := [("_law_at", 9)]) (g := gName 9) (tt := tYes) rfl scNames_.nd (pi_range1 (by rfl) G.range (pa_cons pe_int pa_nil)) (blkOk_by (N := nNames) (sc := defScope sNames) (by decide +kernel))
            (fun _ _ _ _ _ => pg_name (i := 9) scNames_.nd rfl (Or.inl rfl)) (fun _ _ _ _ _ => pts_nil) (fun _ _ _ _ _ => pe_call GP hr rfl mP kP_ bP .nil pass0 (pa_cons (pv 0) (pa_cons (pv 3) pa_nil)))))))
      (pss_one (ps_ret (pe_lc (own := [("_law_sign", 6)]) (g := gName 6) (tt := tYes) rfl scNames_.nd (pi_str (pe_slice sl_str pe_str po_none (po_some (pv 1)))) (blkOk_by (N := nNames) (sc := defScope sNames) (by decide +kernel))
            (fun _ _ _ _ _ => pg_name (i := 6) scNames_.nd rfl (Or.inl rfl)) (fun _ _ _ _ _ => pts_nil) (fun _ _ _ _ _ => pe_op op_add_str (pv 5) (pv 6)))))) pss_nil)
    (pss_cons (ps_for PassesOwn.never rfl (pi_range1 (by rfl) G.range (pa_cons (pv 1) pa_nil)) (pg_name (i := 7) scNames_.nd rfl (Or.inl rfl))
      (pss_cons (ps_set (i := 8) scNames_.nd rfl (Or.inl rfl) (pe_op op_add_str (pe_call GP hr rfl mP kP_ bP .nil pass0 (pa_cons (pv 0) (pa_cons (pv 2) pa_nil))) (pe_join pe_str
          (pe_lc (own := [("_law_at", 9)]) (g := gName 9) (tt := tYes) rfl scNames_.nd (pi_range1 (by rfl) G.range (pa_cons (pe_call GT r1 rfl mT kT bT .nil pass0 (pa_cons (pv 0) (pa_cons pe_int pa_nil))) pa_nil)) (blkOk_by (N := nNames) (sc := defScope sNames) (by decide +kernel))
            (fun _ _ _ _ _ => pg_name (i := 9) scNames_.nd rfl (Or.inl rfl)) (fun _ _ _ _ _ => pts_nil) (fun _ _ _ _ _ => pe_call GP hr rfl mP kP_ bP .nil pass0 (pa_cons (pv 0) (pa_cons (pv 3) pa_nil)))))))
      (pss_cons (ps_for PassesOwn.never rfl (pi_str pe_str) (pg_name (i := 6) scNames_.nd rfl (Or.inl rfl))
        (pss_one (ps_set (i := 8) scNames_.nd rfl (Or.inl rfl) (pe_ifExp (pt_cmpR op_in_seq (pv 8) (pv 4) (by rfl)) (pe_op op_add_str (pv 8) (pv 6)) (pv 8)))))
      (pss_one (ps_expr (pe_bm PySem.F.plainAttrs_list PySem.F.slot_list_append PySem.F.type_list_append mt_append (pv 4) (pa_cons (pv 8) pa_nil)))))))
    (pss_one (ps_ret (pv 4))))), ?_⟩
  have sz : sizeLine = 16777216 := sizeLine_eq
  refine ⟨(by show 0 ≤ sizeLine; omega), fun d nd => ⟨(by show 3 ≤ sizeLine; omega), fun T nT => ?_⟩⟩
  have s1 := upd_new (o := .lst []) nd
  have hd1 : upd H d (.lst []) d = some (.lst []) := upd_same
  generalize upd H d (.lst []) = H1 at s1 hd1 nT ⊢
  have s2 := upd_new (o := .tup [V.str "abcdefghijklmnopqrstuvwxyz", .str "abcdefghijklmnopqrstuvwxyz0123456789", .ref d]) nT
  have hT : upd H1 T (.tup [V.str "abcdefghijklmnopqrstuvwxyz", .str "abcdefghijklmnopqrstuvwxyz0123456789", .ref d]) T = some (.tup [V.str "abcdefghijklmnopqrstuvwxyz", .str "abcdefghijklmnopqrstuvwxyz0123456789", .ref d]) := upd_same
  generalize upd H1 T (.tup [V.str "abcdefghijklmnopqrstuvwxyz", .str "abcdefghijklmnopqrstuvwxyz0123456789", .ref d]) = H2 at s2 hT ⊢
  have hd2 := s2 _ _ hd1
  have s12 := s1.trans s2
  refine ⟨T, _, rfl, SqT.of hT, rfl, _, _, rfl, _, _, rfl, _, _, rfl, rfl, ?_⟩
  have pn2 := pn.same s12
  have dp : d ≠ p := (pn.ne nd).1.symm
  have k2 : Keep p H H2 := theKeep s12
  show tSeq _ _ _ [some (V.ref p), some (.int m), some (.str (S aSmall)), some (.str (S aSigns)), some (.ref d), none, none, none, none, none] H2
  refine ⟨_, rfl, p, c, 6, n, rfl, pn2, by omega, by decide, by decide, fun r H3 r0 r1 k3 pn3 => ⟨rfl, decide (r = 0), by rw [decI], ?_⟩⟩
  have hd3 := k3 _ _ dp hd2
  by_cases er : r = 0
  · rw [decide_eq_true er]
    refine iteT ⟨_, rfl, _, rfl, p, c, aSmall, _, rfl, by rw [small_len]; decide, by rw [small_len]; decide, pn3, by omega, fun a H4 ha k4 pn4 => ?_⟩
    refine ⟨⟨_, rfl⟩, 10, rfl, by decide, by decide, fun D hD => ?_⟩
    have k24 := k2.trans (k3.trans k4)
    have hd4 := k4 _ _ dp hd3
    refine lc_range (lo := 0) (n := (10 : Int).toNat) (fun i H5 => ∃ l : List Nat, l.length = i ∧ (∀ c ∈ l, okA c = true) ∧ H5 D = some (.lst (l.map fun d => V.str (S [d]))) ∧ Keep p H4 H5 ∧ Pen H5 p c (n + 2 + i))
      ⟨[], rfl, by simp, upd_same, theKeep (upd_new hD), pn4.same (upd_new hD)⟩ ?_ ?_
    · rintro i H5 hi ⟨l, ll, al, h5, k5, pn5⟩
      refine ⟨rfl, yes_of ⟨_, rfl, _, rfl, p, c, aSigns, _, rfl, by rw [signs_len]; decide, by rw [signs_len]; decide, pn5, by omega, fun b H6 hb k6 pn6 => ?_⟩⟩
      have Dp : D ≠ p := (pn4.ne hD).1.symm
      have h6 := k6 _ _ Dp h5
      refine ⟨_, h6, by rw [List.length_map]; omega, l ++ [b], by simp [ll], fun x hx => ?_, by rw [upd_same, List.map_append]; rfl, fun x o nx e => ?_, ?_⟩
      · rcases List.mem_append.mp hx with hx | hx
        · exact al x hx
        · rw [List.mem_singleton.mp hx]; exact in_signs hb
      · rw [upd_ne (ne_of_none e hD)]
        exact k6 _ _ nx (k5 _ _ nx e)
      · obtain ⟨z1, z2⟩ := pn4.ne hD
        exact (pn6.upd z1 z2).mono (by omega)
    rintro H5 ⟨l, ll, al, h5, k5, pn5⟩
    have len1 : ((l.map fun d => S [d]).map (·.length)).sum + (l.map fun d => S [d]).length * (S []).length ≤ 16777216 := by
      rw [List.map_map]
      have e1 : ((l.map ((·.length) ∘ fun d => S [d])).sum) = l.length := by
        clear h5 ll al
        induction l with
        | nil => rfl
        | cons a r ih => rw [List.map_cons, List.sum_cons, ih, List.length_cons]; show 1 + r.length = _; omega
      rw [e1, ll, show (S []).length = 0 from rfl, Nat.mul_zero]
      decide
    refine ⟨S [], D, l.map fun d => S [d], rfl, rfl, .inl (SqL.of (by rw [h5, List.map_map]; rfl)), len1, ?_⟩
    rw [join_one]
    have ll10 : l.length = 10 := ll
    refine ⟨_, _, rfl, rfl, (by show (S [a]).length + (S l).length ≤ sizeLine; rw [SX.S_len, SX.S_len, ll10]; simp; omega), ?_⟩
    rw [show S [a] ++ S l = S ([a] ++ l) from SX.S_cat _ _]
    have nl : Nl ([a] ++ l) := ⟨⟨a, rfl, in_small ha⟩, fun x hx => (List.mem_append.mp hx).elim (fun z => by rw [List.mem_singleton.mp z]; unfold okA; rw [in_small ha]; rfl) (al x)⟩
    have cut : cutS (Str.ofString "az0mk4") none (some (m : Int)) = S (ends.take m) := by
      have e : Str.ofString "az0mk4" = S ends := by decide +kernel
      rw [e, C8.cutS_slice, SX.slice_to (by omega), Int.toNat_natCast]
    refine ⟨_, rfl, _, rfl, _, rfl, (by show (Str.ofString "az0mk4").length ≤ sizeLine; rw [show (Str.ofString "az0mk4").length = 6 by decide +kernel]; omega), ?_⟩
    rw [cut]
    refine ⟨_, rfl, fun D2 hD2 => ?_⟩
    have el : (ends.take m).length = m := by rw [List.length_take]; show min m 6 = m; omega
    refine lc_it walk_str (fun i H6 => Same H5 H6 ∧ H6 D2 = some (.lst (((ends.take m).take i).map fun s => V.str (S ([a] ++ l ++ [s]))))) ⟨upd_new hD2, upd_same⟩ (fun _ _ _ _ => trivial) ?_ ?_
    · rintro i x H6 H7 hi ⟨s6, h6⟩ ⟨rfl, s, hs, rfl⟩
      have es : (ends.take m)[i]? = some s := by simpa using hs
      refine ⟨rfl, yes_of ⟨_, rfl, _, rfl, _, _, rfl, rfl, (by show (S ([a] ++ l)).length + (S [s]).length ≤ sizeLine; rw [SX.S_len, SX.S_len, List.length_append, ll10]; simp; omega), _, h6, ?_, same_upd hD2 s6, ?_⟩⟩
      · rw [List.length_map, List.length_take, el]; omega
      · rw [upd_same, take_more es, List.map_append, show S ([a] ++ l) ++ S [s] = S ([a] ++ l ++ [s]) from SX.S_cat _ _]
        rfl
    rintro H6 ⟨s6, h6⟩
    have sz2 : (S (ends.take m)).cps.size = (ends.take m).length := SX.S_len _
    rw [sz2, List.take_length] at h6
    have pn6 := pn5.same s6
    have nD2 : H D2 = none := by
      cases e : H D2 with
      | none => rfl
      | some o =>
        have n2 : D2 ≠ p := by
          rintro rfl
          obtain ⟨_, _, _, x, _⟩ := pn5
          rw [hD2] at x
          cases x
        have := k5 _ _ n2 (k24 _ _ n2 e)
        rw [hD2] at this
        cases this
    refine q D2 ((ends.take m).map fun s => S ([a] ++ l ++ [s])) H6 ⟨by rw [List.length_map, el], ?_, ?_⟩ (k24.trans (k5.trans (theKeep s6))) nD2 (by rw [h6, List.map_map]; rfl) (pn6.mono (by have : (10 : Int).toNat = 10 := rfl; omega))
    · have e6 : ends.Nodup := by decide
      refine List.pairwise_map.mpr ((e6.sublist (List.take_sublist _ _)).imp fun {x y} ne z => ne ?_)
      have := SX.S_inj z
      simpa using this
    · intro x hx
      obtain ⟨s, hs, rfl⟩ := List.mem_map.mp hx
      refine ⟨_, rfl, nl.app fun c hc => ?_, .inr ⟨[a] ++ l, s, rfl, by rw [List.length_append, ll10]; rfl, List.mem_of_mem_take hs⟩⟩
      rw [List.mem_singleton.mp hc]
      have al : ends.all okA = true := by decide
      exact List.all_eq_true.mp al s (List.mem_of_mem_take hs)
  · rw [decide_eq_false er]
    refine iteF ⟨_, rfl, (m : Int), rfl, by omega, by omega, ?_⟩
    refine for_range (lo := 0) (n := (m : Int).toNat) (fun i σ H4 => ∃ (ns : List Str) (z6 z7 z8 : Option V), σ = [some (V.ref p), some (.int m), some (.str (S aSmall)), some (.str (S aSigns)), some (.ref d), none, z6, z7, z8, none] ∧ DrL ns i ∧ Keep p H H4 ∧ H4 d = some (.lst (ns.map V.str)) ∧ Pen H4 p c (n + 1 + 8 * i))
      ⟨[], none, none, none, rfl, ⟨rfl, by simp, by simp⟩, k2.trans k3, hd3, pn3⟩ ?_ ?_
    · rintro i σ H4 hi ⟨ns, z6, z7, z8, rfl, dr, k4, hd4, pn4⟩
      have him : i < m := hi
      have lns := dr.len
      refine ⟨_, rfl, _, rfl, p, c, aSmall, _, rfl, by rw [small_len]; decide, by rw [small_len]; decide, pn4, by omega, fun a H5 ha k5 pn5 => ?_⟩
      have hd5 := k5 _ _ dp hd4
      refine ⟨⟨_, rfl⟩, _, rfl, p, c, 4, _, rfl, pn5, by omega, by decide, by decide, fun r2 H6 r20 r21 k6 pn6 => ⟨r2, rfl, by omega, by omega, fun D hD => ?_⟩⟩
      have hd6 := k6 _ _ dp hd5
      obtain ⟨e2, rfl⟩ := Int.eq_ofNat_of_zero_le r20
      have he2 : e2 < 4 := by omega
      have Dp : D ≠ p := (pn6.ne hD).1.symm
      have dD : d ≠ D := ne_of_none hd6 hD
      refine lc_range (lo := 0) (n := (e2 : Int).toNat) (fun j H7 => ∃ l : List Nat, l.length = j ∧ (∀ c ∈ l, okA c = true) ∧ H7 D = some (.lst (l.map fun d => V.str (S [d]))) ∧ Keep p H6 H7 ∧ Pen H7 p c (n + 1 + 8 * i + 2 + j))
        ⟨[], rfl, by simp, upd_same, theKeep (upd_new hD), pn6.same (upd_new hD)⟩ ?_ ?_
      · rintro j H7 hj ⟨l, ll, al, h7, k7, pn7⟩
        have hj2 : j < e2 := hj
        refine ⟨rfl, yes_of ⟨_, rfl, _, rfl, p, c, aSigns, _, rfl, by rw [signs_len]; decide, by rw [signs_len]; decide, pn7, by omega, fun b H8 hb k8 pn8 => ?_⟩⟩
        have h8 := k8 _ _ Dp h7
        refine ⟨_, h8, by rw [List.length_map]; omega, l ++ [b], by simp [ll], fun x hx => ?_, by rw [upd_same, List.map_append]; rfl, fun x o nx e => ?_, ?_⟩
        · rcases List.mem_append.mp hx with hx | hx
          · exact al x hx
          · rw [List.mem_singleton.mp hx]; exact in_signs hb
        · rw [upd_ne (ne_of_none e hD)]
          exact k8 _ _ nx (k7 _ _ nx e)
        · obtain ⟨y1, y2⟩ := pn6.ne hD
          exact (pn8.upd y1 y2).mono (by omega)
      rintro H7 ⟨l, ll, al, h7, k7, pn7⟩
      have ll2 : l.length = e2 := ll
      have len1 : ((l.map fun d => S [d]).map (·.length)).sum + (l.map fun d => S [d]).length * (S []).length ≤ 16777216 := by
        rw [List.map_map]
        have e1 : ((l.map ((·.length) ∘ fun d => S [d])).sum) = l.length := by
          clear h7 ll al ll2
          induction l with
          | nil => rfl
          | cons a r ih => rw [List.map_cons, List.sum_cons, ih, List.length_cons]; show 1 + r.length = _; omega
        rw [e1, ll2, show (S []).length = 0 from rfl, Nat.mul_zero]
        omega
      refine ⟨S [], D, l.map fun d => S [d], rfl, rfl, .inl (SqL.of (by rw [h7, List.map_map]; rfl)), len1, ?_⟩
      rw [join_one]
      refine ⟨_, _, rfl, rfl, (by show (S [a]).length + (S l).length ≤ sizeLine; rw [SX.S_len, SX.S_len, ll2]; simp; omega), ?_⟩
      rw [show S [a] ++ S l = S ([a] ++ l) from SX.S_cat _ _]
      have nl : Nl ([a] ++ l) := ⟨⟨a, rfl, in_small ha⟩, fun x hx => (List.mem_append.mp hx).elim (fun z => by rw [List.mem_singleton.mp z]; unfold okA; rw [in_small ha]; rfl) (al x)⟩
      have hd7 := k7 _ _ dp hd6
      have k17 : Keep p H H7 := k4.trans (k5.trans (k6.trans k7))
      show tSeq _ _ _ [some (V.ref p), some (.int m), some (.str (S aSmall)), some (.str (S aSigns)), some (.ref d), none, z6, some (.int (0 + (i : Int))), some (.str (S ([a] ++ l))), none] H7
      refine ⟨_, rfl, ?_⟩
      have tl : (Str.ofString "1z0y2").cps.toList = [49, 122, 48, 121, 50] := by decide +kernel
      refine for_it walk_str (fun j σ H8 => H8 = H7 ∧ ∃ (l2 : List Nat) (z6 : Option V), σ = [some (V.ref p), some (.int m), some (.str (S aSmall)), some (.str (S aSigns)), some (.ref d), none, z6, some (.int (0 + (i : Int))), some (.str (S l2)), none] ∧ Nl l2 ∧ l2.length ≤ 4 + j ∧
          (S l2 ∉ ns ∨ ∃ ps : List (List Nat), ps.length = j ∧ ps.Nodup ∧ (∀ x ∈ ps, S x ∈ ns) ∧ ∀ x ∈ ps, x.length < l2.length))
        ⟨rfl, _, _, rfl, nl, by rw [List.length_append, ll2]; simp; omega, .inr ⟨[], rfl, by simp, by simp, by simp⟩⟩ (fun _ _ _ _ _ => trivial) ?_ ?_
      · rintro j x σ H8 H9 hj ⟨rfl, l2, z6', rfl, nl2, len2, or2⟩ ⟨rfl, s, hs, rfl⟩
        have ms : s ∈ [49, 122, 48, 121, 50] := by rw [← tl]; exact List.mem_of_getElem? (i := j) (by simpa using hs)
        have os : okA s = true := by
          have z : [49, 122, 48, 121, 50].all okA = true := by decide
          exact List.all_eq_true.mp z s ms
        refine ⟨_, rfl, _, rfl, d, _, rfl, .inl (SqL.of hd7), rfl, flat_S ns, decide (S l2 ∈ ns), by rw [inV_S]; rfl, ?_⟩
        by_cases mem : S l2 ∈ ns
        · rw [decide_eq_true mem]
          have lm : l2.length ≤ 100 := by
            have : j < 5 := by
              have z : (Str.ofString "1z0y2").cps.size = 5 := by decide +kernel
              rw [← z]; exact hj
            omega
          refine iteT ⟨_, rfl, _, rfl, _, _, rfl, rfl, (by show (S l2).length + (S [s]).length ≤ sizeLine; rw [SX.S_len, SX.S_len]; simp; omega), rfl, l2 ++ [s], some (.str (S [s])), ?_, nl2.app fun c hc => by rw [List.mem_singleton.mp hc]; exact os, by simp; omega, .inr ?_⟩
          · rw [show S l2 ++ S [s] = S (l2 ++ [s]) from SX.S_cat _ _]
            rfl
          · obtain ⟨ps, pl, pnd, pm, plt⟩ := or2.resolve_left fun z => z mem
            refine ⟨l2 :: ps, by simp [pl], List.nodup_cons.mpr ⟨fun z => by have := plt l2 z; omega, pnd⟩, fun x hx => ?_, fun x hx => ?_⟩
            · rcases List.mem_cons.mp hx with rfl | hx
              · exact mem
              · exact pm x hx
            · rw [List.length_append]
              rcases List.mem_cons.mp hx with rfl | hx
              · simp
              · have := plt x hx
                simp; omega
        · rw [decide_eq_false mem]
          exact iteF ⟨_, rfl, rfl, l2, some (.str (S [s])), rfl, nl2, by omega, .inl mem⟩
      · rintro σ H8 ⟨rfl, l2, z6', rfl, nl2, len2, or2⟩
        have z5 : (Str.ofString "1z0y2").cps.size = 5 := by decide +kernel
        rw [z5] at len2 or2
        have nmem : S l2 ∉ ns := by
          rcases or2 with z | ⟨ps, pl, pnd, pm, plt⟩
          · exact z
          · exact fun z => met_few pnd pm z plt (by omega)
        refine ⟨_, rfl, .inl ⟨rfl, _, SqL.of hd7⟩, _, rfl, d, ns.map V.str, .str (S l2), rfl, rfl, hd7, by rw [List.length_map]; omega, ?_⟩
        refine ⟨ns ++ [S l2], _, _, _, rfl, ⟨by simp [lns], ?_, ?_⟩, fun b o nb e => ?_, by rw [upd_same, List.map_append]; rfl, ?_⟩
        · refine List.nodup_append.mpr ⟨dr.nd, by simp, fun x hx y hy => ?_⟩
          rw [List.mem_singleton.mp hy]
          rintro rfl
          exact nmem hx
        · intro x hx
          rcases List.mem_append.mp hx with hx | hx
          · exact dr.dr x hx
          · rw [List.mem_singleton.mp hx]
            exact ⟨l2, rfl, nl2, .inl (by omega)⟩
        · rw [upd_ne (ne_of_none e nd)]
          exact k17 _ _ nb e
        · obtain ⟨y1, y2⟩ := pn.ne nd
          exact (pn7.upd y1 y2).mono (by omega)
    · rintro σ H4 ⟨ns, z6, z7, z8, rfl, dr, k4, hd4, pn4⟩
      exact ⟨_, rfl, q d ns H4 dr k4 nd hd4 (pn4.mono (by omega))⟩
end
end K5

/-! k05: the law's rows, worths, hand-overs. -/
namespace K5
open PySem PySem.Spec PyProof.Rows L2 LamX K1 K18

/-- a row: who gives, who takes, the worths in sixths -/
structure Row where
  g : Nat
  t : Nat
  c : Int
  d : Int
  deriving DecidableEq
def rV (r : Row) : List V := [.int r.g, .int r.t, .int r.c, .int r.d]
structure RwOk (m : Nat) (r : Row) : Prop where
  g : r.g < m
  t : r.t < m
  ne : r.g ≠ r.t
  c0 : 0 ≤ r.c
  d0 : 0 ≤ r.d
  cs : r.c.natAbs < 2 ^ 50
  ds : r.d.natAbs < 2 ^ 50
def RwAt (H : Hp) (a : Addr) (r : Row) : Prop := H a = some (.tup (rV r))
/-- a list of rows -/
def RwL (H : Hp) (d : Addr) (rs : List Row) : Prop := ∃ as, H d = some (.lst (as.map V.ref)) ∧ All2 (RwAt H) as rs
theorem RwL.same {H H' : Hp} {d : Addr} {rs : List Row} (s : Same H H') (h : RwL H d rs) : RwL H' d rs := let ⟨as, a, b⟩ := h; ⟨as, s _ _ a, b.mono fun _ _ z => s _ _ z⟩
/-- the pen's list changes: nothing of these -/
theorem RwL.keep {H H' : Hp} {d p c : Addr} {n : Nat} {rs : List Row} (pn : Pen H p c n) (dp : d ≠ p) (k : Keep p H H') (h : RwL H d rs) : RwL H' d rs := by
  obtain ⟨as, a, b⟩ := h
  obtain ⟨cs, t, r, x, _⟩ := pn
  exact ⟨as, k _ _ dp a, b.mono fun u v z => k _ _ (ne_of z x (fun z => nomatch z)) z⟩
theorem Six.keepP {C : Addr} {H H' : Hp} {a p c : Addr} {n : Nat} {s : Int} (pn : Pen H p c n) (k : Keep p H H') (h : Six C H a s) : Six C H' a s := by
  obtain ⟨cs, t, r, x, _⟩ := pn
  obtain ⟨dx, z⟩ := h
  exact ⟨dx, k _ _ (ne_of z x (fun z => nomatch z)) z⟩
theorem SixV.keepP {C : Addr} {H H' : Hp} {v : V} {p c : Addr} {n : Nat} {s : Int} (pn : Pen H p c n) (k : Keep p H H') (h : SixV C H v s) : SixV C H' v s := h.imp (fun ⟨a, e, z⟩ => ⟨a, e, Six.keepP pn k z⟩) id
theorem HandAt.keepP {C CH : Addr} {H H' : Hp} {a p c : Addr} {n : Nat} {h : Hnd} (pn : Pen H p c n) (k : Keep p H H') (z : HandAt C CH H a h) : HandAt C CH H' a h := by
  obtain ⟨dx, pc, pd, z1, z2, z3⟩ := z
  obtain ⟨cs, t, r, x, _⟩ := id pn
  exact ⟨dx, pc, pd, k _ _ (ne_of z1 x (fun z => nomatch z)) z1, Six.keepP pn k z2, Six.keepP pn k z3⟩
/-- a value set, whichever it is -/
theorem seq_any {te : TE} {k : Nat} {T : TS} {D : Ends} {σ : L2.St} {H : Hp} (R : V → Hp → Prop) (val : ∀ Q : VK, (∀ v H', R v H' → Q v H') → te σ H Q) (go : ∀ v H', R v H' → T D (σ.set k (some v)) H') : tSeq (tAsg te (gName k)) T D σ H := val _ go
def spRows : Sp := fun vs H Q _ => ∃ (p c : Addr) (m k n : Nat), vs = [.ref p, .int m, .int k] ∧ 2 ≤ m ∧ m ≤ 6 ∧ k ≤ 6 ∧ Pen H p c n ∧ n + 60 < 100000 ∧ ∀ (d : Addr) (rs : List Row) (H' : Hp), rs.length = k → (∀ r ∈ rs, RwOk m r) → Keep p H H' → H d = none → RwL H' d rs → Pen H' p c (n + 40) → Q (.ref d) H'
def spWorth (C : Addr) : Sp := fun vs H Q _ => ∃ (p c : Addr) (s : Int) (n : Nat), vs = [.ref p, .int s] ∧ 0 ≤ s ∧ s.natAbs < 2 ^ 50 ∧ Pen H p c n ∧ n + 10 < 100000 ∧ ∀ (v : V) (H' : Hp), SixV C H' v s → Keep p H H' → Pen H' p c (n + 1) → Q v H'
abbrev nRows : List Str := ["_law_pen_here", "_law_strangers", "_law_many", "_law_rows_here", "_law_way", "_law_turn", "_law_giver", "_law_taker", "_law_cost", "_law_gain"]
section
variable {P : Program} {w : World} {K : PySem.W.Frag} {mg : Str → Option Value} {base : Heap} {f C CH : Addr} {fd : FuncData}
theorem scRows : FnScope nRows ["_law_pen_here", "_law_strangers", "_law_many"] (defScope sRows) := ⟨rfl, rfl, rfl, by decide +kernel, rfl, by decide +kernel, by decide +kernel⟩
theorem ok_rows (G : Glob mg) (HT : HasDraw P w K mg base) (HP : HasPick P w K mg base) (F : DefAt K "_law_rows" "_law_rows" sRows f fd) : FnOk P w K mg base CX0 3 f fd ["_law_pen_here", "_law_strangers", "_law_many"] spRows := by
  obtain ⟨ft, fdt, mT, kT, bT, GT⟩ := HT.h
  obtain ⟨fp, fdp, mP, kP_, bP, GP⟩ := HP.h
  refine okN F scRows (fun vs H Q E ⟨p, c, m, k, n, e, _⟩ => by rw [e]; rfl) (fun cdv A outer s H vs Q E hr ⟨p, c, m, k, n, e, m2, m6, k6, pn, hn, q⟩ => ?_)
  subst e
  have r1 := hr.mono (show 1 ≤ 2 by decide)
  refine ⟨_, pss_cons (ps_par (i := 3) (j := 4) (by rfl) scRows.nd rfl rfl (by decide) rfl rfl (pa_cons (pe_lst pa_nil) (pa_cons (pe_call GT r1 rfl mT kT bT .nil pass0 (pa_cons (pv 0) (pa_cons pe_int pa_nil))) pa_nil)) (by rfl))
    (pss_cons (ps_for PassesOwn.never rfl (pi_range1 (by rfl) G.range (pa_cons (pv 2) pa_nil)) (pg_name (i := 5) scRows.nd rfl (Or.inl rfl))
      (pss_cons (ps_set (i := 6) scRows.nd rfl (Or.inl rfl) (pe_call GT r1 rfl mT kT bT .nil pass0 (pa_cons (pv 0) (pa_cons (pv 1) pa_nil))))
      (pss_cons (ps_set (i := 7) scRows.nd rfl (Or.inl rfl) (pe_op op_mod (pe_callTy call_int1 (by rfl) G.int (by decide +kernel) (pa_cons (pe_op op_add (pe_op op_add (pv 6) pe_int) (pe_call GT r1 rfl mT kT bT .nil pass0 (pa_cons (pv 0) (pa_cons (pe_op op_sub (pv 1) pe_int) pa_nil)))) pa_nil)) (pv 1)))
      (pss_cons (ps_set (i := 8) scRows.nd rfl (Or.inl rfl) (pe_call GT r1 rfl mT kT bT .nil pass0 (pa_cons (pv 0) (pa_cons (pe_call GP hr rfl mP kP_ bP .nil pass0 (pa_cons (pv 0) (pa_cons (pe_lst (pa_cons pe_int (pa_cons pe_int (pa_cons pe_int (pa_cons pe_int (pa_cons (pe_op op_pow pe_int pe_int) pa_nil)))))) pa_nil))) pa_nil))))
      (pss_cons (ps_set (i := 9) scRows.nd rfl (Or.inl rfl) (pe_ifExp (pt_cmpR op_eq (pv 4) pe_int (nomark _)) (pv 8) (pe_ifExp (pt_cmpR op_lt (pv 4) pe_int (nomark _)) (pe_op op_add (pv 8) (pe_op op_mul (pe_op op_mul pe_int (pv 4)) (pe_call GT r1 rfl mT kT bT .nil pass0 (pa_cons (pv 0) (pa_cons pe_int pa_nil)))))
          (pe_call GT r1 rfl mT kT bT .nil pass0 (pa_cons (pv 0) (pa_cons pe_int pa_nil))))))
      (pss_one (ps_expr (pe_bm PySem.F.plainAttrs_list PySem.F.slot_list_append PySem.F.type_list_append mt_append (pv 3) (pa_cons (pe_tup (pa_cons (pv 6) (pa_cons (pv 7) (pa_cons (pv 8) (pa_cons (pv 9) pa_nil))))) pa_nil)))))))))
    (pss_one (ps_ret (pv 3)))), ?_⟩
  have sz : sizeLine = 16777216 := sizeLine_eq
  refine ⟨(by show 0 ≤ sizeLine; omega), fun d nd => ⟨_, rfl, ?_⟩⟩
  have s1 := upd_new (o := .lst []) nd
  have hd1 : upd H d (.lst []) d = some (.lst []) := upd_same
  generalize upd H d (.lst []) = H1 at s1 hd1 ⊢
  have dp : d ≠ p := (pn.ne nd).1.symm
  refine ⟨p, c, 4, n, rfl, pn.same s1, by omega, by decide, by decide, fun w0 H2 w00 w04 k2 pn2 => ?_⟩
  have kk2 : Keep p H H2 := (theKeep s1).trans k2
  have hd2 := k2 _ _ dp hd1
  refine ⟨_, _, rfl, ?_⟩
  show tSeq _ _ _ [some (V.ref p), some (.int m), some (.int k), some (.ref d), some (.int w0), none, none, none, none, none] H2
  refine ⟨_, rfl, (k : Int), rfl, by omega, by omega, ?_⟩
  refine for_range (lo := 0) (n := (k : Int).toNat) (fun i σ H3 => ∃ (rs : List Row) (z5 z6 z7 z8 z9 : Option V), σ = [some (V.ref p), some (.int m), some (.int k), some (.ref d), some (.int w0), z5, z6, z7, z8, z9] ∧ rs.length = i ∧ (∀ r ∈ rs, RwOk m r) ∧ Keep p H H3 ∧ RwL H3 d rs ∧ Pen H3 p c (n + 1 + 5 * i))
    ⟨[], none, none, none, none, none, rfl, rfl, by simp, kk2, ⟨[], hd2, .nil⟩, pn2⟩ ?_ ?_
  · rintro i σ H3 hi ⟨rs, z5, z6, z7, z8, z9, rfl, lrs, ok, k3, rw3, pn3⟩
    have hik : i < k := hi
    obtain ⟨m', rfl⟩ : ∃ m' : Nat, m' = m := ⟨m, rfl⟩
    refine ⟨_, rfl, _, rfl, p, c, m', _, rfl, pn3, by omega, by omega, by omega, fun g H4 g0 g1 k4 pn4 => ?_⟩
    refine ⟨_, rfl, _, _, rfl, rfl, _, rfl, _, rfl, _, _, rfl, rfl, p, c, _, _, rfl, pn4, by omega, by omega, by omega, fun u H5 u0 u1 k5 pn5 => ?_⟩
    refine ⟨_, _, rfl, rfl, .inl ⟨_, rfl, _, rfl, _, _, rfl, rfl, by omega, ?_⟩⟩
    refine ⟨_, rfl, _, rfl, _, _, rfl, rfl, ⟨by decide, by decide, by decide⟩, (by show 5 ≤ sizeLine; omega), fun b nb => ?_⟩
    have sB := upd_new (o := .lst [.int 1, .int 7, .int 55, .int 55, .int ((10 : Int) ^ (12 : Int).toNat)]) nb
    have hB : upd H5 b (.lst [.int 1, .int 7, .int 55, .int 55, .int ((10 : Int) ^ (12 : Int).toNat)]) b = some (.lst [.int 1, .int 7, .int 55, .int 55, .int ((10 : Int) ^ (12 : Int).toNat)]) := upd_same
    generalize upd H5 b (.lst [.int 1, .int 7, .int 55, .int 55, .int ((10 : Int) ^ (12 : Int).toNat)]) = H6 at sB hB ⊢
    have pn6 := pn5.same sB
    refine ⟨p, c, b, _, _, rfl, .inl hB, (pn5.ne nb).1.symm, by decide, by decide, pn6, by omega, fun j x H7 ex k7 pn7 => ?_⟩
    have xb : ∃ m1 : Int, x = .int m1 ∧ 0 < m1 ∧ m1 ≤ 10 ^ 12 := by
      match j, ex with
      | 0, ex => exact ⟨_, (Option.some.inj ex).symm, by decide, by decide⟩
      | 1, ex => exact ⟨_, (Option.some.inj ex).symm, by decide, by decide⟩
      | 2, ex => exact ⟨_, (Option.some.inj ex).symm, by decide, by decide⟩
      | 3, ex => exact ⟨_, (Option.some.inj ex).symm, by decide, by decide⟩
      | 4, ex => exact ⟨_, (Option.some.inj ex).symm, by decide, by decide⟩
      | j + 5, ex => exact nomatch ex
    obtain ⟨m1, rfl, m10, m11⟩ := xb
    refine ⟨p, c, _, _, rfl, pn7, by omega, by omega, by omega, fun cc H8 c0 c1 k8 pn8 => ?_⟩
    have kk8 : Keep p H3 H8 := k4.trans (k5.trans ((theKeep sB).trans (k7.trans k8)))
    have t0 := Int.emod_nonneg (g + 1 + u) (show (m' : Int) ≠ 0 by omega)
    have t1 := Int.emod_lt_of_pos (g + 1 + u) (show (0 : Int) < m' by omega)
    have tne : g ≠ (g + 1 + u) % m' := by
      intro e
      have := Int.emod_add_mul_ediv (g + 1 + u) m'
      rw [← e] at this
      have h1 : (m' : Int) * ((g + 1 + u) / m') = 1 + u := by omega
      rcases Int.lt_trichotomy ((g + 1 + u) / m') 0 with z | z | z
      · have := Int.mul_le_mul_of_nonneg_left (show (g + 1 + u) / m' ≤ -1 by omega) (show (0 : Int) ≤ m' by omega)
        omega
      · rw [z] at h1; omega
      · have := Int.mul_le_mul_of_nonneg_left (show 1 ≤ (g + 1 + u) / m' by omega) (show (0 : Int) ≤ m' by omega)
        omega
    dsimp only [gName]
    refine seq_any (R := fun v H9 => ∃ dd : Int, v = .int dd ∧ 0 ≤ dd ∧ dd.natAbs < 2 ^ 50 ∧ Keep p H8 H9 ∧ Pen H9 p c (n + 1 + 5 * i + 5)) (fun Q2 kq => ?_) ?_
    · have pq := pn8.mono (show n + 1 + 5 * i + 1 + 1 + 1 + 1 ≤ n + 1 + 5 * i + 5 by omega)
      refine ⟨_, rfl, rfl, decide (w0 = 0), by rw [decI], ?_⟩
      by_cases e0 : w0 = 0
      · rw [decide_eq_true e0]
        exact iteT ⟨_, rfl, kq _ _ ⟨cc, rfl, c0, by omega, Keep.refl _ _, pq⟩⟩
      rw [decide_eq_false e0]
      refine iteF ⟨_, rfl, _, _, rfl, rfl, _, rfl, ?_⟩
      by_cases e3 : w0 < 3
      · rw [decide_eq_true e3]
        refine iteT ⟨_, rfl, _, rfl, _, _, rfl, rfl, .inl ⟨by decide, by omega⟩, _, rfl, p, c, _, _, rfl, pn8, by omega, by omega, by omega, fun v H9 v0 v1 k9 pn9 => ?_⟩
        have wv : 0 ≤ 6 * w0 * v ∧ 6 * w0 * v ≤ 12 * 2 := ⟨Int.mul_nonneg (by omega) v0, Int.mul_le_mul (by omega) (by omega) (by omega) (by decide)⟩
        refine ⟨_, _, rfl, rfl, .inl ⟨by omega, by omega⟩, _, _, rfl, rfl, kq _ _ ⟨_, rfl, by omega, by omega, k9, pn9⟩⟩
      · rw [decide_eq_false e3]
        exact iteF ⟨_, rfl, p, c, _, _, rfl, pn8, by omega, by omega, by omega, fun v H9 v0 v1 k9 pn9 => kq _ _ ⟨v, rfl, v0, by omega, k9, pn9⟩⟩
    rintro _ H9 ⟨dd, rfl, d0, d1, k9, pn9⟩
    have k39 := kk8.trans k9
    obtain ⟨as, hd9, al⟩ := rw3.keep pn3 dp k39
    obtain ⟨g', rfl⟩ := Int.eq_ofNat_of_zero_le g0
    obtain ⟨t', et⟩ := Int.eq_ofNat_of_zero_le t0
    refine ⟨_, rfl, .inl ⟨rfl, _, SqL.of hd9⟩, _, rfl, _, rfl, _, rfl, _, rfl, (by show 4 ≤ sizeLine; omega), fun a na => ?_⟩
    have sA := upd_new (o := .tup [.int g', .int ((g' + 1 + u) % m'), .int cc, .int dd]) na
    have eA : upd H9 a (.tup [.int g', .int ((g' + 1 + u) % m'), .int cc, .int dd]) a = some (.tup (rV ⟨g', t', cc, dd⟩)) := by
      rw [upd_same, et]; rfl
    generalize upd H9 a (.tup [.int g', .int ((g' + 1 + u) % m'), .int cc, .int dd]) = H10 at sA eA ⊢
    have hd10 := sA _ _ hd9
    have las := al.1
    obtain ⟨y1, y2⟩ := pn.ne nd
    have ad : a ≠ d := (ne_of_none hd9 na).symm
    refine ⟨d, as.map V.ref, .ref a, rfl, rfl, hd10, by rw [List.length_map]; omega, rs ++ [⟨g', t', cc, dd⟩], _, _, _, _, _, rfl, by simp [lrs], fun r hr => ?_, ?_, ⟨as ++ [a], by rw [upd_same, List.map_append]; rfl, ?_⟩, (pn9.same sA).upd y1 y2 |>.mono (by omega)⟩
    · rcases List.mem_append.mp hr with hr | hr
      · exact ok r hr
      · rw [List.mem_singleton.mp hr]
        exact ⟨by show g' < m'; omega, by show t' < m'; omega, by show g' ≠ t'; omega, c0, d0, by show cc.natAbs < 2 ^ 50; omega, d1⟩
    · intro b' o nb e
      rw [upd_ne (ne_of_none e nd)]
      exact sA _ _ (k9 _ _ nb (kk8 _ _ nb (k3 _ _ nb e)))
    · exact (All2.snoc (al.mono fun x r z => by
        show upd _ _ _ _ = _
        rw [upd_ne (ne_of z hd9 (fun z => nomatch z))]
        exact sA _ _ z) (by
        show upd _ _ _ _ = _
        rw [upd_ne ad]
        exact eA))
  · rintro σ H3 ⟨rs, z5, z6, z7, z8, z9, rfl, lrs, ok, k3, rw3, pn3⟩
    exact ⟨_, rfl, q d rs H3 lrs ok k3 nd rw3 (pn3.mono (by omega))⟩
theorem scWorth : FnScope ["_law_pen_here", "_law_sixths"] ["_law_pen_here", "_law_sixths"] (defScope sWorth) := ⟨rfl, rfl, rfl, by decide +kernel, rfl, by decide +kernel, by decide +kernel⟩
theorem ok_worth (HT : HasDraw P w K mg base) (MR : MkR P w K mg base C) (F : DefAt K "_law_worth" "_law_worth" sWorth f fd) : FnOk P w K mg base CX0 4 f fd ["_law_pen_here", "_law_sixths"] (spWorth C) := by
  obtain ⟨ft, fdt, mT, kT, bT, GT⟩ := HT.h
  obtain ⟨fm, fdm, ds, M, GM, bM, _, _⟩ := MR.m
  refine okN F scWorth (fun vs H Q E ⟨p, c, s, n, e, _⟩ => by rw [e]; rfl) (fun cdv A outer s H vs Q E hr ⟨p, c, x, n, e, x0, xs, pn, hn, q⟩ => ?_)
  subst e
  refine ⟨_, pss_one (ps_ret (pe_ifExp (PW.pt (pw_and (pt_cmpR op_eq (pe_op op_mod (pv 1) pe_int) pe_int (nomark _)) (pw_and1 (pt_cmpR op_eq (pe_call GT (hr.mono (by decide)) rfl mT kT bT .nil pass0 (pa_cons (pv 0) (pa_cons pe_int pa_nil))) pe_int (nomark _)))))
    (pe_op op_fdiv (pv 1) pe_int) (pe_make M GM hr rfl MR.g bM .nil pass0 (pa_cons (pv 1) (pa_cons pe_int pa_nil))))), ?_⟩
  have ratio : ∀ (H1 : Hp), Keep p H H1 → Pen H1 p c (n + 1) → ∀ y dy, H1 y = none → H1 dy = none → dy ≠ y → spRI C [.ref y, .int x, .int 6] (upd (upd H1 dy (.own y)) y (.ins C dy [])) (fun v H2 => v = .non ∧ Q (.ref y) H2) E0 := fun H1 k1 pn1 =>
    mk_six (s := x) (by decide) (by omega) (by decide) ⟨rfl, rfl⟩ fun a H2 s2 na h2 => q (.ref a) H2 (.inl ⟨a, rfl, h2⟩) (k1.trans (theKeep s2)) (pn1.same s2)
  refine ⟨_, rfl, _, _, rfl, rfl, (by show (0 : Int) < 6; decide), rfl, decide (x % 6 = 0), by rw [decI], ?_⟩
  by_cases e : x % 6 = 0
  · rw [decide_eq_true e]
    refine iteT ⟨_, rfl, p, c, 2, n, rfl, pn, by omega, by decide, by decide, fun r H1 r0 r2 k1 pn1 => ⟨rfl, decide (r = 0), by rw [decI], ?_⟩⟩
    by_cases er : r = 0
    · rw [decide_eq_true er]
      exact iteT ⟨_, rfl, _, _, rfl, rfl, ⟨by decide, by decide⟩, q _ H1 (.inr ⟨_, rfl, by omega⟩) k1 pn1⟩
    · rw [decide_eq_false er]
      exact iteF ⟨_, rfl, ratio H1 k1 pn1⟩
  · rw [decide_eq_false e]
    exact iteF (iteF ⟨_, rfl, ratio H (Keep.refl _ _) (pn.mono (by omega))⟩)
end
end K5

/-! k05: the law's hand-overs, lines, backs. -/
namespace K5
open PySem PySem.Spec PyProof.Rows L2 LamX K1 K18

/-! ### rows in numbers -/
def mkH (ns : List Str) (r : Row) : Hnd := ⟨ns.getD r.g "", ns.getD r.t "", r.c, r.d⟩
def effR (j : Nat) (r : Row) : Int := if j = r.g then -r.c else if j = r.t then r.d else 0
def lineF (m : Nat) (rs : List Row) : List Int := (List.range m).map fun j => (rs.map (effR j)).sum
def Row.back (r : Row) : Row := ⟨r.t, r.g, r.d, r.c⟩
theorem getD_at {ns : List Str} {i : Nat} (h : i < ns.length) : ns[i]? = some (ns.getD i "") := by
  rw [List.getD_eq_getElem?_getD, List.getElem?_eq_getElem h]; rfl
theorem getD_in {ns : List Str} {i : Nat} (h : i < ns.length) : ns.getD i "" ∈ ns := List.mem_of_getElem? (getD_at h)
theorem getD_inj {ns : List Str} (nd : ns.Nodup) {i j : Nat} (hi : i < ns.length) (hj : j < ns.length) (e : ns.getD i "" = ns.getD j "") : i = j :=
  by
    have ei : ns.getD i "" = ns[i] := by rw [List.getD_eq_getElem?_getD, List.getElem?_eq_getElem hi]; rfl
    have ej : ns.getD j "" = ns[j] := by rw [List.getD_eq_getElem?_getD, List.getElem?_eq_getElem hj]; rfl
    rw [ei, ej] at e
    have pw := List.pairwise_iff_getElem.mp nd
    rcases Nat.lt_trichotomy i j with z | z | z
    · exact absurd e (pw i j hi hj z)
    · exact z
    · exact absurd e.symm (pw j i hj hi z)
theorem hnd_ok {ns : List Str} (nd : ns.Nodup) (nm : ∀ n ∈ ns, Nm n) {r : Row} (k : RwOk ns.length r) : HnOk (mkH ns r) := ⟨nm _ (getD_in k.g), nm _ (getD_in k.t), fun e => k.ne (getD_inj nd k.g k.t e), k.c0, k.d0, k.cs, k.ds⟩
theorem sw_ok {ns : List Str} {rs : List Row} (n2 : 2 ≤ ns.length) (n6 : ns.length ≤ 6) (nd : ns.Nodup) (nm : ∀ n ∈ ns, Nm n) (k : ∀ r ∈ rs, RwOk ns.length r) : SwOk ns (rs.map (mkH ns)) := ⟨n2, n6, nd, nm, fun h m => by
  obtain ⟨r, hr, rfl⟩ := List.mem_map.mp m
  exact ⟨hnd_ok nd nm (k r hr), getD_in (k r hr).g, getD_in (k r hr).t⟩⟩
theorem back_mk (ns : List Str) (rs : List Row) : (rs.map (mkH ns)).map Hnd.back = (rs.map Row.back).map (mkH ns) := by
  rw [List.map_map, List.map_map]; rfl
theorem RwOk.back {m : Nat} {r : Row} (k : RwOk m r) : RwOk m r.back := ⟨k.t, k.g, Ne.symm k.ne, k.d0, k.c0, k.ds, k.cs⟩
theorem eff_row {ns : List Str} (nd : ns.Nodup) {r : Row} (k : RwOk ns.length r) {j : Nat} (hj : j < ns.length) : (mkH ns r).eff (ns.getD j "") = effR j r := by
  unfold Hnd.eff effR
  have e1 : (ns.getD j "" = (mkH ns r).g) ↔ j = r.g := ⟨fun e => getD_inj nd hj k.g e, fun e => by rw [e]; rfl⟩
  have e2 : (ns.getD j "" = (mkH ns r).t) ↔ j = r.t := ⟨fun e => getD_inj nd hj k.t e, fun e => by rw [e]; rfl⟩
  simp only [e1, e2]
  rfl
theorem net_row {ns : List Str} (nd : ns.Nodup) {j : Nat} (hj : j < ns.length) : ∀ {rs : List Row}, (∀ r ∈ rs, RwOk ns.length r) → net (rs.map (mkH ns)) (ns.getD j "") = (rs.map (effR j)).sum
  | [], _ => rfl
  | r :: rs, k => by
    have ih := net_row nd hj (rs := rs) fun x hx => k x (List.mem_cons_of_mem _ hx)
    have er := eff_row nd (k r List.mem_cons_self) hj
    unfold net at ih ⊢
    rw [List.map_cons, List.map_cons, List.sum_cons, ← er, ← ih]
    by_cases h : (decide (ns.getD j "" = (mkH ns r).g) || decide (ns.getD j "" = (mkH ns r).t)) = true
    · rw [List.filter_cons, if_pos h, List.map_cons, List.sum_cons]
    · rw [List.filter_cons, if_neg h]
      have : (mkH ns r).eff (ns.getD j "") = 0 := by
        unfold Hnd.eff
        rw [Bool.or_eq_true, decide_eq_true_iff, decide_eq_true_iff] at h
        rw [if_neg fun e => h (.inl e), if_neg fun e => h (.inr e)]
      rw [this, Int.zero_add]
theorem nets_line {ns : List Str} (nd : ns.Nodup) {rs : List Row} (k : ∀ r ∈ rs, RwOk ns.length r) : ns.map (net (rs.map (mkH ns))) = lineF ns.length rs := by
  refine List.ext_getElem? fun j => ?_
  unfold lineF
  rw [List.getElem?_map, List.getElem?_map]
  by_cases hj : j < ns.length
  · rw [getD_at hj, List.getElem?_range hj, Option.map_some, Option.map_some, net_row nd hj k]
  · rw [List.getElem?_eq_none (by omega), List.getElem?_eq_none (by rw [List.length_range]; omega)]; rfl
theorem line_at {m j : Nat} {rs : List Row} (h : j < m) : (lineF m rs)[j]? = some (rs.map (effR j)).sum := by
  unfold lineF
  rw [List.getElem?_map, List.getElem?_range h]; rfl
theorem line_len (m : Nat) (rs : List Row) : (lineF m rs).length = m := by unfold lineF; rw [List.length_map, List.length_range]
theorem line_nil (m : Nat) : lineF m [] = List.replicate m 0 := by
  refine List.ext_getElem? fun j => ?_
  by_cases h : j < m
  · rw [line_at h, List.getElem?_replicate_of_lt h]; rfl
  · rw [List.getElem?_eq_none (by rw [line_len]; omega), List.getElem?_eq_none (by rw [List.length_replicate]; omega)]
theorem line_step {m : Nat} {rs : List Row} {r : Row} (k : RwOk m r) : ((lineF m rs).set r.g ((rs.map (effR r.g)).sum - r.c)).set r.t ((rs.map (effR r.t)).sum + r.d) = lineF m (rs ++ [r]) := by
  refine List.ext_getElem? fun j => ?_
  by_cases h : j < m
  · rw [line_at h, List.map_append, List.sum_append, List.getElem?_set, List.getElem?_set, List.length_set, line_len]
    have one : ([r].map (effR j)).sum = effR j r := by simp
    rw [one]
    unfold effR
    by_cases e1 : r.t = j
    · subst e1
      rw [if_pos rfl, if_pos h, if_neg (Ne.symm k.ne), if_pos rfl]
    · rw [if_neg e1]
      by_cases e2 : r.g = j
      · subst e2
        rw [if_pos rfl, if_pos h, if_pos rfl]
        rfl
      · rw [if_neg e2, line_at h, if_neg (Ne.symm e2), if_neg (Ne.symm e1), Int.add_zero]
        rfl
  · rw [List.getElem?_eq_none (by rw [List.length_set, List.length_set, line_len]; omega), List.getElem?_eq_none (by rw [line_len]; omega)]
theorem effR_sm {m j : Nat} {r : Row} (k : RwOk m r) : (effR j r).natAbs < 2 ^ 50 := by
  unfold effR
  have := k.cs
  have := k.ds
  split
  · omega
  · split <;> omega
theorem sum_sm {m j : Nat} : ∀ {rs : List Row}, (∀ r ∈ rs, RwOk m r) → (rs.map (effR j)).sum.natAbs ≤ rs.length * 2 ^ 50
  | [], _ => by simp
  | r :: rs, k => by
    have ih := sum_sm (j := j) (rs := rs) fun x hx => k x (List.mem_cons_of_mem _ hx)
    have h1 := effR_sm (j := j) (k r List.mem_cons_self)
    rw [List.map_cons, List.sum_cons, List.length_cons, Nat.succ_mul]
    omega
def LineSm (l : List Int) : Prop := ∀ z ∈ l, z.natAbs < 2 ^ 56
theorem line_sm {m : Nat} {rs : List Row} (k : ∀ r ∈ rs, RwOk m r) (l : rs.length ≤ 60) : LineSm (lineF m rs) := fun z hz => by
  obtain ⟨j, _, rfl⟩ := List.mem_map.mp hz
  have := sum_sm (j := j) k
  have : rs.length * 2 ^ 50 ≤ 60 * 2 ^ 50 := Nat.mul_le_mul_right _ l
  omega
/-! ### the defs -/
def spHandsL (C CH : Addr) : Sp := fun vs H Q _ => ∃ (p c nm rw : Addr) (ns : List Str) (rs : List Row) (n : Nat), vs = [.ref p, .ref nm, .ref rw] ∧ Pen H p c n ∧ n + 30 < 100000 ∧ nm ≠ p ∧ rw ≠ p ∧ H nm = some (.lst (ns.map V.str)) ∧ ns.Nodup ∧ (∀ n ∈ ns, Nm n) ∧
  RwL H rw rs ∧ (∀ r ∈ rs, RwOk ns.length r) ∧ rs.length ≤ 6 ∧ ∀ (d : Addr) (as : List Addr) (H' : Hp), Keep p H H' → H d = none → H' d = some (.lst (as.map V.ref)) → Hands C CH H' as (rs.map (mkH ns)) → Pen H' p c (n + 12) → Q (.ref d) H'
abbrev nHandsL : List Str := ["_law_pen_here", "_law_names_here", "_law_rows_here", "_law_found", "_law_giver", "_law_taker", "_law_cost", "_law_gain"]
section
variable {P : Program} {w : World} {K : PySem.W.Frag} {mg : Str → Option Value} {base : Heap} {f C CH : Addr} {fd : FuncData}
abbrev HasWorth (P : Program) (w : World) (K : PySem.W.Frag) (mg : Str → Option Value) (base : Heap) (C : Addr) : Prop := Has P w K mg base CX0 4 "_law_worth" ["_law_pen_here", "_law_sixths"] (spWorth C)
theorem scHandsL : FnScope nHandsL ["_law_pen_here", "_law_names_here", "_law_rows_here"] (defScope sHandsL) := ⟨rfl, rfl, rfl, by decide +kernel, rfl, by decide +kernel, by decide +kernel⟩
theorem ok_handsL (HW : HasWorth P w K mg base C) (M : MkH P w K mg base C CH) (F : DefAt K "_law_hands" "_law_hands" sHandsL f fd) : FnOk P w K mg base CX0 9 f fd ["_law_pen_here", "_law_names_here", "_law_rows_here"] (spHandsL C CH) := by
  obtain ⟨fw, fdw, mW, kW, bW, GW⟩ := HW.h
  obtain ⟨fm, fdm, Mm, GM, bM⟩ := M.m
  refine okN F scHandsL (fun vs H Q E ⟨p, c, nm, rw, ns, rs, n, e, _⟩ => by rw [e]; rfl) (fun cdv A outer s H vs Q E hr ⟨p, c, nm, rw, ns, rs, n, e, pn, hn, np, rp, hnm, nd, nmo, rwl, ok, l6, q⟩ => ?_)
  subst e
  have r4 := hr.mono (show 4 ≤ 8 by decide)
  refine ⟨_, pss_cons (ps_set (i := 3) scHandsL.nd rfl (Or.inl rfl) (pe_lst pa_nil))
    (pss_cons (ps_for PassesOwn.never rfl (pi_list (pv 2)) (pg_tup (by rfl) (pgs_cons (pg_name (i := 4) scHandsL.nd rfl (Or.inl rfl)) (pgs_cons (pg_name (i := 5) scHandsL.nd rfl (Or.inl rfl)) (pgs_cons (pg_name (i := 6) scHandsL.nd rfl (Or.inl rfl)) (pgs_cons (pg_name (i := 7) scHandsL.nd rfl (Or.inl rfl)) pgs_nil)))))
      (pss_one (ps_expr (pe_bm PySem.F.plainAttrs_list PySem.F.slot_list_append PySem.F.type_list_append mt_append (pv 3) (pa_cons (pe_make Mm GM hr rfl M.g bM .nil pass0 (pa_cons (pe_ix ix_list (pv 1) (pv 4) (fun _ _ => rfl)) (pa_cons (pe_ix ix_list (pv 1) (pv 5) (fun _ _ => rfl))
        (pa_cons (pe_call GW r4 rfl mW kW bW .nil pass0 (pa_cons (pv 0) (pa_cons (pv 6) pa_nil))) (pa_cons (pe_call GW r4 rfl mW kW bW .nil pass0 (pa_cons (pv 0) (pa_cons (pv 7) pa_nil))) pa_nil))))) pa_nil)))))
    (pss_one (ps_ret (pv 3)))), ?_⟩
  have sz : sizeLine = 16777216 := sizeLine_eq
  refine ⟨(by show 0 ≤ sizeLine; omega), fun d nd' => ⟨_, rfl, ?_⟩⟩
  have s1 := upd_new (o := .lst []) nd'
  have hd1 : upd H d (.lst []) d = some (.lst []) := upd_same
  generalize upd H d (.lst []) = H1 at s1 hd1 ⊢
  have dp : d ≠ p := (pn.ne nd').1.symm
  obtain ⟨ras, hrw, ral⟩ := rwl
  refine ⟨rw, rfl, ⟨_, SqL.of (s1 _ _ hrw)⟩, ?_⟩
  refine for_it (walk_list (xs := ras.map V.ref)) (fun i σ H3 => ∃ (as : List Addr) (z4 z5 z6 z7 : Option V), σ = [some (V.ref p), some (.ref nm), some (.ref rw), some (.ref d), z4, z5, z6, z7] ∧ Keep p H H3 ∧ H3 d = some (.lst (as.map V.ref)) ∧ Hands C CH H3 as ((rs.take i).map (mkH ns)) ∧ Pen H3 p c (n + 2 * i))
    ⟨[], none, none, none, none, rfl, theKeep s1, hd1, by simpa using All2.nil, pn.same s1⟩ ?_ ?_ ?_
  · rintro i σ H3 hi ⟨as, z4, z5, z6, z7, rfl, k3, hd3, hh, pn3⟩
    exact SqL.of (k3 _ _ rp hrw)
  · rintro i x σ H3 H4 hi ⟨as, z4, z5, z6, z7, rfl, k3, hd3, hh, pn3⟩ ⟨rfl, ex⟩
    obtain ⟨a, ea, rfl⟩ := map_at ex
    obtain ⟨r, er, ra⟩ := ral.get ea
    have rm := List.mem_of_getElem? er
    have ro := ok r rm
    have li := (List.getElem?_eq_some_iff.mp er).1
    obtain ⟨pcs, pt, pr, hpp, _⟩ := id pn
    refine ⟨a, rV r, rfl, SqT.of (k3 _ _ (ne_of ra hpp (fun z => nomatch z)) ra), rfl, _, _, rfl, _, _, rfl, _, _, rfl, _, _, rfl, rfl, ?_⟩
    refine ⟨_, rfl, .inl ⟨rfl, _, SqL.of hd3⟩, ?_⟩
    refine ⟨_, rfl, _, rfl, nm, ns.map V.str, _, _, rfl, rfl, SqL.of (k3 _ _ np hnm), atI_nat (by rw [List.getElem?_map, getD_at ro.g]; rfl), ?_⟩
    refine ⟨_, rfl, _, rfl, nm, ns.map V.str, _, _, rfl, rfl, SqL.of (k3 _ _ np hnm), atI_nat (by rw [List.getElem?_map, getD_at ro.t]; rfl), ?_⟩
    refine ⟨_, rfl, _, rfl, p, c, r.c, _, rfl, ro.c0, ro.cs, pn3, by omega, fun vc H5 sc5 k5 pn5 => ?_⟩
    refine ⟨_, rfl, _, rfl, p, c, r.d, _, rfl, ro.d0, ro.ds, pn5, by omega, fun vd H6 sd6 k6 pn6 => ?_⟩
    dsimp only [tNil]
    refine mk_hand (CH := CH) (Q := fun v H2 => rAppend (.ref d) [v] H2 _) (h := mkH ns r) (hnd_ok nd nmo ro) (sc5.keepP pn5 k6) sd6 fun q' H7 s7 nq hq => ?_
    have k37 : Keep p _ H7 := k5.trans (k6.trans (theKeep s7))
    have hd7 := k37 _ _ dp hd3
    have las := hh.1
    obtain ⟨y1, y2⟩ := pn.ne nd'
    refine ⟨d, as.map V.ref, .ref q', rfl, rfl, hd7, by rw [List.length_map]; rw [List.length_map, List.length_take] at las; omega, as ++ [q'], _, _, _, _, rfl, ?_, by rw [upd_same, List.map_append]; rfl, ?_, ((pn6.same s7).upd y1 y2).mono (by omega)⟩
    · intro b' o nb e
      rw [upd_ne (ne_of_none e nd')]
      exact k37 _ _ nb (k3 _ _ nb e)
    · rw [take_more er, List.map_append]
      exact All2.snoc (hh.mono fun u v z => hand_upd hd7 (z.keepP pn3 k37)) (hand_upd hd7 hq)
  · rintro σ H3 ⟨as, z4, z5, z6, z7, rfl, k3, hd3, hh, pn3⟩
    rw [List.length_map, ral.1, List.take_length] at hh
    exact ⟨_, rfl, q d as H3 k3 nd' hd3 hh (pn3.mono (by rw [List.length_map, ral.1]; omega))⟩
end
theorem ixN_nat {m k : Nat} (h : k < m) : ixN m (k : Int) = some k := by
  unfold ixN
  simp [h]
def spLine : Sp := fun vs H Q _ => ∃ (m : Nat) (rw : Addr) (rs : List Row), vs = [.int m, .ref rw] ∧ m ≤ 6 ∧ RwL H rw rs ∧ (∀ r ∈ rs, RwOk m r) ∧ rs.length ≤ 60 ∧ ∀ (d : Addr) (H' : Hp), Same H H' → H d = none → H' d = some (.lst ((lineF m rs).map V.int)) → Q (.ref d) H'
def spIs (C : Addr) : Sp := fun vs H Q _ => ∃ (a : Addr) (s : Int), vs = [.ref a, .int s] ∧ Six C H a s ∧ s.natAbs < 2 ^ 56 ∧ Q (.bl true) H
abbrev nLineL : List Str := ["_law_strangers", "_law_rows_here", "_law_line_here", "_law_giver", "_law_taker", "_law_cost", "_law_gain"]
section
variable {P : Program} {w : World} {K : PySem.W.Frag} {mg : Str → Option Value} {base : Heap} {f C CH : Addr} {fd : FuncData}
theorem scLineL : FnScope nLineL ["_law_strangers", "_law_rows_here"] (defScope sLine) := ⟨rfl, rfl, rfl, by decide +kernel, rfl, by decide +kernel, by decide +kernel⟩
theorem ok_line (F : DefAt K "_law_line" "_law_line" sLine f fd) : FnOk P w K mg base CX0 1 f fd ["_law_strangers", "_law_rows_here"] spLine := by
  refine okN F scLineL (fun vs H Q E ⟨m, rw, rs, e, _⟩ => by rw [e]; rfl) (fun cdv A outer s H vs Q E hr ⟨m, rw, rs, e, m6, rwl, ok, l60, q⟩ => ?_)
  subst e
  refine ⟨_, pss_cons (ps_set (i := 2) scLineL.nd rfl (Or.inl rfl) (pe_op op_rep (pe_lst (pa_cons pe_int pa_nil)) (pv 0)))
    (pss_cons (ps_for PassesOwn.never rfl (pi_list (pv 1)) (pg_tup (by rfl) (pgs_cons (pg_name (i := 3) scLineL.nd rfl (Or.inl rfl)) (pgs_cons (pg_name (i := 4) scLineL.nd rfl (Or.inl rfl)) (pgs_cons (pg_name (i := 5) scLineL.nd rfl (Or.inl rfl)) (pgs_cons (pg_name (i := 6) scLineL.nd rfl (Or.inl rfl)) pgs_nil)))))
      (pss_cons (ps_asg (pe_op op_sub (pe_ix ix_list (pv 2) (pv 3) (fun _ _ => rfl)) (pv 5)) (pg_sub (pv 2) (pv 3) set_list))
      (pss_one (ps_asg (pe_op op_add (pe_ix ix_list (pv 2) (pv 4) (fun _ _ => rfl)) (pv 6)) (pg_sub (pv 2) (pv 4) set_list)))))
    (pss_one (ps_ret (pv 2)))), ?_⟩
  have sz : sizeLine = 16777216 := sizeLine_eq
  refine ⟨(by show 1 ≤ sizeLine; omega), fun d0 nd0 => ?_⟩
  have s1 := upd_new (o := .lst [.int 0]) nd0
  have h1 : upd H d0 (.lst [.int 0]) d0 = some (.lst [.int 0]) := upd_same
  generalize upd H d0 (.lst [.int 0]) = H1 at s1 h1 ⊢
  refine ⟨_, rfl, d0, (m : Int), [.int 0], rfl, rfl, h1, by omega, by omega, (by show 1 * _ ≤ _; omega), fun d nd1 => ?_⟩
  have e0 : (List.replicate (m : Int).toNat [V.int 0]).flatten = (lineF m []).map V.int := by
    rw [line_nil, List.map_replicate, Int.toNat_natCast, List.flatten_replicate_singleton]
  rw [e0]
  have s2 := upd_new (o := .lst ((lineF m []).map V.int)) nd1
  have h2 : upd H1 d (.lst ((lineF m []).map V.int)) d = some (.lst ((lineF m []).map V.int)) := upd_same
  generalize upd H1 d (.lst ((lineF m []).map V.int)) = H2 at s2 h2 ⊢
  have s12 := s1.trans s2
  have nd : H d = none := by
    cases e : H d with
    | none => rfl
    | some o => rw [s1 _ _ e] at nd1; cases nd1
  obtain ⟨ras, hrw, ral⟩ := rwl
  refine ⟨_, rfl, rw, rfl, ⟨_, SqL.of (s12 _ _ hrw)⟩, ?_⟩
  refine for_list (xs := ras.map V.ref) (fun i σ H3 => ∃ (z3 z4 z5 z6 : Option V), σ = [some (V.int m), some (.ref rw), some (.ref d), z3, z4, z5, z6] ∧ Same H H3 ∧ H3 d = some (.lst ((lineF m (rs.take i)).map V.int)))
    ⟨none, none, none, none, rfl, s12, h2⟩ ?_ ?_ ?_
  · rintro i σ H3 hi ⟨z3, z4, z5, z6, rfl, s3, hd3⟩
    exact SqL.of (s3 _ _ hrw)
  · rintro i x σ H3 ex ⟨z3, z4, z5, z6, rfl, s3, hd3⟩
    obtain ⟨a, ea, rfl⟩ := map_at ex
    obtain ⟨r, er, ra⟩ := ral.get ea
    have ro := ok r (List.mem_of_getElem? er)
    have g3 : ∀ {j : Nat}, j < m → ((lineF m (rs.take i)).map V.int)[j]? = some (.int (((rs.take i).map (effR j)).sum)) := fun hj => by rw [List.getElem?_map, line_at hj]; rfl
    refine ⟨a, rV r, rfl, SqT.of (s3 _ _ ra), rfl, _, _, rfl, _, _, rfl, _, _, rfl, _, _, rfl, rfl, ?_⟩
    refine ⟨_, rfl, _, rfl, d, _, _, _, rfl, rfl, SqL.of hd3, atI_nat (g3 ro.g), _, rfl, _, _, rfl, rfl, _, rfl, _, rfl, d, _, _, r.g, rfl, rfl, hd3, ?_, ?_⟩
    · exact ixN_nat (by rw [List.length_map, line_len]; exact ro.g)
    have hd4 : upd H3 d (.lst (((lineF m (rs.take i)).map V.int).set r.g (.int (((rs.take i).map (effR r.g)).sum - r.c)))) d = some (.lst (((lineF m (rs.take i)).set r.g (((rs.take i).map (effR r.g)).sum - r.c)).map V.int)) := by rw [upd_same, List.map_set]
    have s4 : Same H (upd H3 d (.lst (((lineF m (rs.take i)).map V.int).set r.g (.int (((rs.take i).map (effR r.g)).sum - r.c))))) := fun o u e => by rw [upd_ne (ne_of_none e nd)]; exact s3 _ _ e
    refine ⟨_, rfl, _, rfl, d, _, _, _, rfl, rfl, SqL.of hd4, atI_nat (j := r.t) (v := .int (((rs.take i).map (effR r.t)).sum)) (by rw [List.getElem?_map, List.getElem?_set, if_neg ro.ne, line_at ro.t]; rfl), _, rfl, _, _, rfl, rfl, _, rfl, _, rfl, d, _, _, r.t, rfl, rfl, hd4, ?_, _, _, _, _, rfl, ?_, ?_⟩
    · exact ixN_nat (by rw [List.length_map, List.length_set, line_len]; exact ro.t)
    · intro o u e
      rw [upd_ne (ne_of_none e nd)]
      exact s4 _ _ e
    · rw [upd_same, take_more er, ← line_step ro]
      simp only [List.map_set]
  · rintro σ H3 ⟨z3, z4, z5, z6, rfl, s3, hd3⟩
    rw [List.length_map, ral.1, List.take_length] at hd3
    exact ⟨_, rfl, q d H3 s3 nd hd3⟩
theorem scIs : FnScope ["_law_value", "_law_sixths"] ["_law_value", "_law_sixths"] (defScope sIs) := ⟨rfl, rfl, rfl, by decide +kernel, rfl, by decide +kernel, by decide +kernel⟩
theorem ok_is (G : Glob mg) (R : RatF K C) (gR : mg "Ratio" = some (.ref C)) (F : DefAt K "_law_is" "_law_is" sIs f fd) : FnOk P w K mg base CX0 1 f fd ["_law_value", "_law_sixths"] (spIs C) := by
  refine okN F scIs (fun vs H Q E ⟨a, s, e, _⟩ => by rw [e]; rfl) (fun cdv A outer s H vs Q E hr ⟨a, n, e, ha, sm, q⟩ => ?_)
  subst e
  obtain ⟨dx, h1⟩ := ha
  refine ⟨_, pss_one (ps_ret (pe_and (pe_callB call_isi (by rfl) G.isi (by decide +kernel) (pa_cons (pv 0) (pa_cons (pe_glob (v := .ref C) rfl gR rfl) pa_nil)))
    (pe_one (pe_cmpR op_eq (pe_op op_mul pe_int (pe_fld (pv 0) rfl)) (pe_op op_mul (pv 1) (pe_fld (pv 0) rfl)) (nomark _))))), ?_⟩
  have ⟨b1, b2⟩ := six_le n
  refine ⟨_, rfl, _, _, _, _, _, rfl, .own C, .base (R.ty h1), R.me, true, rfl, iteT ?_⟩
  refine ⟨_, rfl, a, C, dx, _, _, rfl, h1, R.cl, R.nT, fsR_top _ _, _, _, rfl, rfl, .inl ⟨by decide, by decide⟩, _, rfl, _, rfl, a, C, dx, _, _, rfl, h1, R.cl, R.nB, fsR_bottom _ _, _, _, rfl, rfl, .inr ⟨by omega, by omega⟩, rfl, ?_⟩
  rw [decI, decide_eq_true ((six_is n n).mpr rfl)]
  exact q
end
end K5

/-! k05: loops over zip of a tuple, or of a Swap, with a list. -/
namespace K5
open PySem PySem.Spec PyProof.Rows L2 LamX K1 K18

theorem own_it {M : Model} {A : Around} {E : Value → Shared → Prop} {s : Shared} {Q : Value → Shared → Prop} {it t : Addr} {i : Nat} (h : s.heap.IsTupleIter it t i) (q : Q (.ref it) s) : PySem.W.OwitIt M A Q E (.ref it) s := by
  unfold PySem.W.OwitIt
  exact wpAny_specialOf h.typeIs F.slot_tuple_iterator_next.lookup q
/-- iter(t), t a tuple; the iterator lies behind all that stood at the entry -/
def rIterN (K : PySem.W.Frag) (n : Nat) : List V → Hp → VK → Prop := fun xs H Q => ∃ (t : Addr) (zs : List V), xs = [.ref t] ∧ SqT K H t zs ∧ ∀ it, n ≤ it → H it = none → Q (.ref it) (upd H it (ItT t it 0))
theorem call_iterN {X : Cx} {K : PySem.W.Frag} {n : Nat} (hK : X.K = K) (hn : X.s_0.heap.objs.size = n) : CallR X (.builtin "iter") (rIterN K n) := by
  subst hK hn
  intro pins s σ H xs us Q I r h
  obtain ⟨t, zs, rfl, hq, k⟩ := h
  obtain rfl := Vals.ref1 r
  obtain ⟨its, rv, p, hz⟩ := I.tuple hq
  exact call_iterT0 p ⟨.ref s.heap.objs.size, _, I.laid (t' := s.toks) (fun b u e => Heap.get?_push_of_some _ e) (Nat.le_refl _) (itT_ok ⟨_, Heap.get?_push_size _ rfl, rfl, rfl⟩), rfl, k _ I.sz I.fresh⟩
/-- a Swap at a, its hands the tuple at t -/
def SwT (CS : Addr) (H : Hp) (a t : Addr) : Prop := (∃ dx ps pn, H a = some (.ins CS dx (fsS ps t pn))) ∧ ∃ xs, H t = some (.tup xs)
/-- Swap.__iter__ -/
structure IterO (P : Program) (w : World) (K : PySem.W.Frag) (mg : Str → Option Value) (base : Heap) (CS : Addr) : Prop where
  h : ∃ f fd, OwnM K CS "__iter__" f ∧ Binds K fd ["self"] [] ∧ ∀ (A : Around) (outer : List Env) (s : Shared) (H : Hp) (args : Args) (a t : Addr), Room 1 A → Env0 P w K mg base A outer s H → BindsTo s fd args ((["self"] : List Str).zip [.ref a]) → SwT CS H a t →
    codeAny (model P w) A (.call (.ref f) args) (CR CX0 outer P w H s (fun v H' => ∃ it, v = .ref it ∧ s.heap.objs.size ≤ it ∧ H it = none ∧ H' = upd H it (ItT t it 0)) E0) s
section
variable {P : Program} {w : World} {K : PySem.W.Frag} {mg : Str → Option Value} {base : Heap} {f CS : Addr} {fd : FuncData}
theorem iterO_of (G : Glob mg) (R : SwapF K CS) (F : DefAt K "__iter__" "Swap.__iter__" sSIter f fd) (M : OwnM K CS "__iter__" f) (B : Binds K fd ["self"] []) : IterO P w K mg base CS := by
  refine ⟨f, fd, M, B, fun A outer s H args a t hr e0 hb h => ?_⟩
  obtain ⟨oc, od, dV, kV, doc, pm, an, cdv, ct, osl, rfl, lk, hcd, _, _⟩ := F.ex
  refine run_ofS (CX := CX0) (N := ["self"]) (ps := ["self"]) (us := [.ref a]) (vs := [.ref a]) lk hcd scIter hr e0 hb (.cons rfl .nil) rfl fun hr2 => ?_
  refine ⟨_, (pss_one (ps_ret (pe_callB (r := rIterN K s.heap.objs.size) (call_iterN rfl rfl) (by rfl) G.iter (by decide +kernel) (pa_cons (pe_fld (pv 0) rfl) pa_nil)))).nox, ?_⟩
  obtain ⟨⟨dx, ps, pn, h1⟩, xs, h2⟩ := h
  exact ⟨_, rfl, a, CS, dx, _, _, rfl, h1, R.cl, R.nH, fs_h _ _ _, t, _, rfl, SqT.of h2, fun it n nit => ⟨it, rfl, n, nit, rfl⟩⟩
end
theorem fp5 {X : Cx} {pins : List (Addr × Obj)} {H : Hp} {c I O i1 i2 : Addr} (h : FpOk X pins H c ∧ FpOk X pins H I ∧ FpOk X pins H O ∧ FpOk X pins H i1 ∧ FpOk X pins H i2) : ∀ d ∈ [c, I, O, i1, i2], FpOk X pins H d := fun d hd => by
  obtain ⟨h1, h2, h3, h4, h5⟩ := h
  rcases mem5 hd with rfl | rfl | rfl | rfl | rfl <;> assumption
def iZipM (K : PySem.W.Frag) (ta : TA) : TI := fun σ H R => ta σ H fun vs H1 => ∃ t b xs ys, vs = [.ref t, .ref b] ∧ SqT K H1 t xs ∧ SqL K H1 b ys ∧ R (ItzM K t b) H1
theorem pi_zipM {X : Cx} {e e2 : Expr} {ta : TA} {p pos tpos : Pos} {elts : List Expr} {kk : Nat} (hg : Gl X "zip") (hm : X.mg "zip" = none) (ha : PA X [e, e2] ta)
    (hs : starEach [e, e2] X.env = (false, eval e X.env) :: starEach [e2] X.env := by rfl) (hpl : (backTo pos (starEach [e2] X.env)).any (·.1) = false := by rfl) : PI X (.Tuple elts kk tpos) (.Call (.Name "zip" p) [e, e2] [] pos) (iZipM X.K ta) := by
  refine ⟨fun pins s σ H R I h => Call_ (ld_blt I hg hm PyProof.Rows.boot_zip (PyProof.Rows.callWith_type1 (thn (ha.run pos pins s σ H _ I h) fun us s1 ⟨vs, H1, I1, r1, t, b, xs, ys, ex, hqx, hqy, q⟩ => ?_) hs hpl))⟩
  subst ex
  obtain ⟨ut, ub, rfl, rt, rb⟩ := vals2 r1
  obtain rfl : ut = Value.ref t := rt
  obtain rfl : ub = Value.ref b := rb
  obtain ⟨its, rv, p1, _⟩ := I1.tuple hqx
  obtain ⟨its2, rv2, p2, _⟩ := I1.list hqy
  obtain ⟨o1, ho1, _⟩ := id p1
  have b2 := p2.isList
  obtain ⟨o2, ho2, _⟩ := id b2
  have lt := Heap.lt_size ho1
  have lb := Heap.lt_size ho2
  have n1 : (s1.heap.push { cls := .type "tuple_iterator", data := .fields #[.ref t, .int 0 0] }).objs.size = s1.heap.objs.size + 1 := Heap.size_push ..
  have n2 : ((s1.heap.push { cls := .type "tuple_iterator", data := .fields #[.ref t, .int 0 0] }).push { cls := .type "list_iterator", data := .fields #[.ref b, .int 0 0] }).objs.size = s1.heap.objs.size + 2 := by rw [Heap.size_push, n1]
  refine zip_call (wpAny_pyIter_tuple p1 (wpAny_pyIter_list (Heap.IsList.push b2 _) ?_))
  obtain ⟨z1, z2, z3, z4⟩ := zHp_at (h := (s1.heap.push { cls := .type "tuple_iterator", data := .fields #[.ref t, .int 0 0] }).push { cls := .type "list_iterator", data := .fields #[.ref b, .int 0 0] }) (u := .ref s1.heap.objs.size) (v := .ref (s1.heap.objs.size + 1))
  have g1 : (s1.heap.push { cls := .type "tuple_iterator", data := .fields #[.ref t, .int 0 0] }).get? s1.heap.objs.size = some _ := Heap.get?_push_size _ rfl
  have g2 := Heap.get?_push_size (s1.heap.push { cls := .type "tuple_iterator", data := .fields #[.ref t, .int 0 0] }) (o := { cls := .type "list_iterator", data := .fields #[.ref b, .int 0 0] }) rfl
  show wpAny _ _ (pyIter (.ref (((s1.heap.push { cls := .type "tuple_iterator", data := .fields #[.ref t, .int 0 0] }).push { cls := .type "list_iterator", data := .fields #[.ref b, .int 0 0] }).objs.size + 2))) _ _ { s1 with heap := zHp ((s1.heap.push { cls := .type "tuple_iterator", data := .fields #[.ref t, .int 0 0] }).push { cls := .type "list_iterator", data := .fields #[.ref b, .int 0 0] }) (.ref s1.heap.objs.size) (.ref (s1.heap.push { cls := .type "tuple_iterator", data := .fields #[.ref t, .int 0 0] }).objs.size) }
  rw [n1]
  have kp : ∀ c o, s1.heap.get? c = some o → (zHp ((s1.heap.push { cls := .type "tuple_iterator", data := .fields #[.ref t, .int 0 0] }).push { cls := .type "list_iterator", data := .fields #[.ref b, .int 0 0] }) (.ref s1.heap.objs.size) (.ref (s1.heap.objs.size + 1))).get? c = some o := fun c o e => z4 c o (Heap.get?_push_of_some _ (Heap.get?_push_of_some _ e))
  have i1 := z4 _ _ (Heap.get?_push_of_some _ g1)
  have i2 := z4 _ _ g2
  rw [n1] at i2
  rw [n2] at z1 z2 z3 ⊢
  generalize zHp ((s1.heap.push { cls := .type "tuple_iterator", data := .fields #[.ref t, .int 0 0] }).push { cls := .type "list_iterator", data := .fields #[.ref b, .int 0 0] }) (.ref s1.heap.objs.size) (.ref (s1.heap.objs.size + 1)) = h5 at *
  have fr : ∀ d, s1.heap.objs.size ≤ d → FpOk X pins H1 d := fun d hd => I1.fpOk hd (I1.hok.fresh hd)
  exact wpAny_pyIter_zip (s := { s1 with heap := h5 }) z1 ⟨s1.heap.objs.size + 2 + 2, [s1.heap.objs.size + 2 + 2, s1.heap.objs.size + 2, s1.heap.objs.size + 2 + 1, s1.heap.objs.size, s1.heap.objs.size + 1], _, _, H1, rfl, I1.kept (t' := s1.toks) kp, turn_zipM (PySem.W.ktu_apart s1.heap.objs.size t b lt lb), ⟨z1, z2, ⟨_, _, z3⟩, ⟨_, i1, rfl, rfl⟩, ⟨_, i2, rfl, rfl⟩⟩,
    fp5 ⟨fr _ (by omega), fr _ (by omega), fr _ (by omega), fr _ (Nat.le_refl _), fr _ (by omega)⟩, q⟩
theorem delH_upd {H : Hp} {a : Addr} {o : HO} (h : H a = none) : delH (upd H a o) a = H := by
  funext b
  unfold delH
  by_cases e : b = a
  · rw [if_pos e, e, h]
  · rw [if_neg e, upd_ne e]
theorem apartO (I it t b : Nat) (h1 : t < I) (h2 : b < I) (h3 : it < I) (h4 : t ≠ it) (h5 : b ≠ it) : ZipApart (I + 1 + 2) (I + 1) (I + 1 + 1) it I t b := by
  constructor <;> (refine fun (z : @Eq Nat _ _) => ?_; omega)
def iZipO (X : Cx) (CS : Addr) (ta : TA) : TI := fun σ H R => ta σ H fun vs H1 => ∃ a t b xs ys, vs = [.ref a, .ref b] ∧ SwT CS H1 a t ∧ SqT X.K H1 t xs ∧ SqL X.K H1 b ys ∧ H1 b = some (.lst ys) ∧ (∀ it, H1 it = none → X.H_0 it = none) ∧ R (ItzM X.K t b) H1
theorem pi_zipO {X : Cx} {CS : Addr} {e e2 : Expr} {ta : TA} {p pos tpos : Pos} {elts : List Expr} {kk : Nat} (hg : Gl X "zip") (hm : X.mg "zip" = none) (IO : IterO X.prog X.w X.K X.mg X.base CS) (hr : Room 3 X.A) (hex : X.ex = []) (ha : PA X [e, e2] ta)
    (hs : starEach [e, e2] X.env = (false, eval e X.env) :: starEach [e2] X.env := by rfl) (hpl : (backTo pos (starEach [e2] X.env)).any (·.1) = false := by rfl) : PI X (.Tuple elts kk tpos) (.Call (.Name "zip" p) [e, e2] [] pos) (iZipO X CS ta) := by
  obtain ⟨fi, fdi, M, B, run⟩ := IO.h
  refine ⟨fun pins s σ H R I h => Call_ (ld_blt I hg hm PyProof.Rows.boot_zip (PyProof.Rows.callWith_type1 (thn (ha.run pos pins s σ H _ I h) fun us s1 ⟨vs, H1, I1, r1, a, t, b, xs, ys, ex, sw, hqx, hqy, hb1, h0, q⟩ => ?_) hs hpl))⟩
  subst ex
  obtain ⟨ua, ub, rfl, ra, rb⟩ := vals2 r1
  obtain rfl : ua = Value.ref a := ra
  obtain rfl : ub = Value.ref b := rb
  obtain ⟨⟨dx, ps, pn, h1⟩, xs0, ht⟩ := id sw
  obtain ⟨mA, O, _⟩ := ins_get I1.hok h1
  obtain ⟨od, J, _⟩ := O.look
  obtain ⟨m, hF⟩ := I1.fr
  refine zip_call (PySem.W.owit_iter hF I1.ok.mod.kin J M.at_ M.fn (wpAny_call (codeAny_mono (run X.A.in1.in1 X.stack s1 H1 ⟨[.ref a], []⟩ a t hr.in1.in1 I1.env0.in1.in1 (by
    have z := B s1 [.ref a] I1.kIn (by simp)
    simpa using z) sw) fun r s2 hq => ?_)))
  cases r with
  | error e => exact (show False from hq).elim
  | ok fl =>
    cases fl with
    | next => exact False.elim hq
    | brk => exact False.elim hq
    | cont => exact False.elim hq
    | ret u =>
      obtain ⟨v, H2, I2, rv, it, rfl, hle, nit, rfl⟩ := I1.after hq
      obtain rfl : u = Value.ref it := rv
      have hit : s2.heap.IsTupleIter it t 0 := (I2.hok it _ upd_same).1
      refine own_it hit ?_
      have tne : t ≠ it := ne_of_none ht nit
      have bne : b ≠ it := ne_of_none hb1 nit
      obtain ⟨G, gs, ga, I3⟩ := I2.untrack upd_same (fr0_none (h0 it nit)) hex
      rw [delH_upd nit] at I3
      have I4 : Inv X pins σ H1 s2 := I3.kept (t' := s2.toks) gs
      obtain ⟨its, rvx, p1, _⟩ := I4.tuple hqx
      obtain ⟨its2, rvy, p2, _⟩ := I4.list hqy
      obtain ⟨o1, ho1, _⟩ := id p1
      have b2 := p2.isList
      obtain ⟨o2, ho2, _⟩ := id b2
      obtain ⟨oi, hoi, _⟩ := id hit
      have lt := Heap.lt_size ho1
      have lb := Heap.lt_size ho2
      have li := Heap.lt_size hoi
      have n1 : (s2.heap.push { cls := .type "list_iterator", data := .fields #[.ref b, .int 0 0] }).objs.size = s2.heap.objs.size + 1 := Heap.size_push ..
      refine wpAny_pyIter_list b2 ?_
      obtain ⟨z1, z2, z3, z4⟩ := zHp_at (h := s2.heap.push { cls := .type "list_iterator", data := .fields #[.ref b, .int 0 0] }) (u := .ref it) (v := .ref s2.heap.objs.size)
      have g2 := Heap.get?_push_size s2.heap (o := { cls := .type "list_iterator", data := .fields #[.ref b, .int 0 0] }) rfl
      show wpAny _ _ (pyIter (.ref ((s2.heap.push { cls := .type "list_iterator", data := .fields #[.ref b, .int 0 0] }).objs.size + 2))) _ _ { s2 with heap := zHp (s2.heap.push { cls := .type "list_iterator", data := .fields #[.ref b, .int 0 0] }) (.ref it) (.ref s2.heap.objs.size) }
      have kp : ∀ c o, s2.heap.get? c = some o → (zHp (s2.heap.push { cls := .type "list_iterator", data := .fields #[.ref b, .int 0 0] }) (.ref it) (.ref s2.heap.objs.size)).get? c = some o := fun c o e => z4 c o (Heap.get?_push_of_some _ e)
      have i2 := z4 _ _ g2
      rw [n1] at z1 z2 z3 ⊢
      generalize zHp (s2.heap.push { cls := .type "list_iterator", data := .fields #[.ref b, .int 0 0] }) (.ref it) (.ref s2.heap.objs.size) = h5 at *
      have fr : ∀ d, s2.heap.objs.size ≤ d → FpOk X pins H1 d := fun d hd => I4.fpOk hd (I4.hok.fresh hd)
      have D := apartO s2.heap.objs.size it t b lt lb li tne bne
      exact wpAny_pyIter_zip (s := { s2 with heap := h5 }) z1 ⟨s2.heap.objs.size + 1 + 2, [s2.heap.objs.size + 1 + 2, s2.heap.objs.size + 1, s2.heap.objs.size + 1 + 1, it, s2.heap.objs.size], _, _, H1, rfl, I4.kept (t' := s2.toks) kp, turn_zipM D, ⟨z1, z2, ⟨_, _, z3⟩, hit.at fun o e => kp _ o e, ⟨_, i2, rfl, rfl⟩⟩,
        fp5 ⟨fr _ (by omega), fr _ (by omega), fr _ (by omega), I1.fpOk hle nit, fr _ (Nat.le_refl _)⟩, q⟩
end K5

/-! k05: _law_is_line, _law_has. -/
namespace K5
open PySem PySem.Spec PyProof.Rows L2 LamX K1 K18

def spIsLine (C : Addr) : Sp := fun vs H Q _ => ∃ (p d : Addr) (qs : List Addr) (zs : List Int), vs = [.ref p, .ref d] ∧ H p = some (.tup (qs.map V.ref)) ∧ All2 (Six C H) qs zs ∧ H d = some (.lst (zs.map V.int)) ∧ LineSm zs ∧ zs.length ≤ 6 ∧ ∀ H', Same H H' → Q (.bl true) H'
section
variable {P : Program} {w : World} {K : PySem.W.Frag} {mg : Str → Option Value} {base : Heap} {f C CH CS : Addr} {fd : FuncData}
abbrev HasIs (P : Program) (w : World) (K : PySem.W.Frag) (mg : Str → Option Value) (base : Heap) (C : Addr) : Prop := Has P w K mg base CX0 1 "_law_is" ["_law_value", "_law_sixths"] (spIs C)
abbrev nIsLine : List Str := ["_law_value", "_law_line_here", "_law_one", "_law_sixths"]
theorem scIsLine : FnScope nIsLine ["_law_value", "_law_line_here"] (defScope sIsLine) := ⟨rfl, rfl, rfl, by decide +kernel, rfl, by decide +kernel, by decide +kernel⟩
theorem six_up {H : Hp} {a D : Addr} {s : Int} {o : HO} (hD : H D = none) (z : Six C H a s) : Six C (upd H D o) a s := z.same (upd_new hD)
theorem ok_isline (G : Glob mg) (HI : HasIs P w K mg base C) (F : DefAt K "_law_is_line" "_law_is_line" sIsLine f fd) : FnOk P w K mg base CX0 2 f fd ["_law_value", "_law_line_here"] (spIsLine C) := by
  obtain ⟨fi, fdi, mI, kI, bI, GI⟩ := HI.h
  refine okN F scIsLine (fun vs H Q E ⟨p, d, qs, zs, e, _⟩ => by rw [e]; rfl) (fun cdv A outer s H vs Q E hr ⟨p, d, qs, zs, e, hp, al, hd, sm, l6, q⟩ => ?_)
  subst e
  refine ⟨_, pss_cons (ps_if (PW.pt (pw_or (pt_not (pt_val (pe_callB call_isi (by rfl) G.isi (by decide +kernel) (pa_cons (pv 0) (pa_cons (pe_bltn (by rfl) G.tup (by decide +kernel) (v := .ty "tuple") rfl) pa_nil)))))
      (pw_or1 (pt_cmpR op_ne (pe_callB (r := rLenA K) (call_lenA rfl) (by rfl) G.len PySem.boot_len (pa_cons (pv 0) pa_nil)) (pe_callB (r := rLenA K) (call_lenA rfl) (by rfl) G.len PySem.boot_len (pa_cons (pv 1) pa_nil)) (nomark _))))) pss_dead pss_nil)
    (pss_one (ps_ret (pe_callB (cr_all rfl) (by rfl) G.all (by decide +kernel) (pa_cons
          (pe_lc (own := [("_law_one", 2), ("_law_sixths", 3)]) (g := gTup K 2 (gCons (gName 2) (gCons (gName 3) gNil))) (tt := tYes) rfl scIsLine.nd (pi_zipM (by rfl) G.zip (pa_cons (pv 0) (pa_cons (pv 1) pa_nil))) (blkOk_by (N := nIsLine) (sc := defScope sIsLine) (by decide +kernel))
            (fun _ _ _ _ _ => pg_tup (by rfl) (pgs_cons (pg_name (i := 2) scIsLine.nd rfl (Or.inl rfl)) (pgs_cons (pg_name (i := 3) scIsLine.nd rfl (Or.inl rfl)) pgs_nil))) (fun _ _ _ _ _ => pts_nil) (fun _ _ _ _ _ => pe_call GI hr rfl mI kI bI .nil pass0 (pa_cons (pv 2) (pa_cons (pv 3) pa_nil)))) pa_nil)))), ?_⟩
  have sz : sizeLine = 16777216 := sizeLine_eq
  have lq : qs.length = zs.length := al.1
  refine ⟨_, rfl, _, _, _, _, _, rfl, .ty "tuple", .base (.tup hp), kit_ty (a := "tuple") (b := "tuple") (r := true) (by decide +kernel), true, rfl, iteF ?_⟩
  refine ⟨_, rfl, p, _, rfl, .inr (SqT.of hp), _, rfl, d, _, rfl, .inl (SqL.of hd), rfl, false, ?_, iteF ?_⟩
  · rw [List.length_map, List.length_map, lq]
    exact congrArg V.bl (by rw [decI]; simp)
  refine ⟨_, rfl, _, rfl, p, d, qs.map V.ref, zs.map V.int, rfl, SqT.of hp, SqL.of hd, fun D hD => ?_⟩
  refine lc_it (walk_zipM (n := zs.length) (xs := qs.map V.ref) (ys := zs.map V.int) (by rw [List.length_map, List.length_map, lq, Nat.min_self])) (fun i H2 => Same H H2 ∧ H2 D = some (.lst (List.replicate i (V.bl true)))) ⟨upd_new hD, upd_same⟩ (fun i H2 _ z => ⟨SqT.of (z.1 _ _ hp), SqL.of (z.1 _ _ hd)⟩) ?_ ?_
  · rintro i v H2 H3 hi ⟨s2, h2⟩ ⟨T, x, y, rfl, nT, rfl, ex, ey⟩
    obtain ⟨a, ea, rfl⟩ := map_at ex
    obtain ⟨z, ez, rfl⟩ := map_at ey
    have s3 := upd_new (o := .tup [.ref a, .int z]) nT
    have hT : upd H2 T (.tup [.ref a, .int z]) T = some (.tup [.ref a, .int z]) := upd_same
    generalize upd H2 T (.tup [.ref a, .int z]) = H3 at s3 hT ⊢
    refine ⟨T, _, rfl, SqT.of hT, rfl, _, _, rfl, _, _, rfl, rfl, rfl, yes_of ⟨_, rfl, _, rfl, a, z, rfl, (al.2 i a z ea ez).same (s2.trans s3), sm z (List.mem_of_getElem? ez), ?_⟩⟩
    exact ⟨_, s3 _ _ h2, by rw [List.length_replicate]; omega, same_upd hD (s2.trans s3), by rw [rep_snoc, upd_same]⟩
  · rintro H2 ⟨s2, h2⟩
    refine ⟨D, List.replicate _ true, rfl, SqL.of (by rw [h2, List.map_replicate]), ?_⟩
    rw [all_true]
    exact q H2 s2
end
section
variable {P : Program} {w : World} {K : PySem.W.Frag} {mg : Str → Option Value} {base : Heap} {f C CH CS : Addr} {fd : FuncData}
abbrev HasIsLine (P : Program) (w : World) (K : PySem.W.Frag) (mg : Str → Option Value) (base : Heap) (C : Addr) : Prop := Has P w K mg base CX0 2 "_law_is_line" ["_law_value", "_law_line_here"] (spIsLine C)
abbrev HasLine (P : Program) (w : World) (K : PySem.W.Frag) (mg : Str → Option Value) (base : Heap) : Prop := Has P w K mg base CX0 1 "_law_line" ["_law_strangers", "_law_rows_here"] spLine
end
end K5

/-! k04: done sets, layer by layer. -/
namespace K4

/-- the least number that may follow -/
def nxt (d : List Nat) : Nat := match d.getLast? with
  | some x => x + 1
  | none => 0
/-- d with one number more, below m -/
def more (m : Nat) (d : List Nat) : List (List Nat) := (List.range (m - nxt d)).map fun i => d ++ [nxt d + i]
def layer (m : Nat) : Nat → List (List Nat)
  | 0 => [[]]
  | t + 1 => (layer m t).flatMap (more m)
/-- the first t layers -/
def upto (m : Nat) : Nat → List (List Nat)
  | 0 => []
  | t + 1 => upto m t ++ layer m t
abbrev setsN (m : Nat) : List (List Nat) := upto m (m + 1)
def asc : List Nat → Bool
  | [] => true
  | [_] => true
  | a :: b :: r => decide (a < b) && asc (b :: r)
def goodS (m : Nat) (d : List Nat) : Bool := asc d && d.all (fun x => decide (x < m))
theorem sets_good5 : ∀ m : Fin 6, (setsN m).all (goodS m) = true := by decide +kernel
def chk (m : Nat) : Bool := decide ((upto m 14).length ≤ 4096)
theorem lens12 : ∀ m : Fin 13, chk m = true := by decide +kernel
theorem upto_mono {m : Nat} {s : Nat} (k : Nat) : (upto m s).length ≤ (upto m (s + k)).length := by
  induction k with
  | zero => exact Nat.le_refl _
  | succ k ih =>
    show _ ≤ (upto m (s + k) ++ layer m (s + k)).length
    rw [List.length_append]
    omega
theorem asc_pw : ∀ {l : List Nat}, asc l = true → l.Pairwise (· < ·)
  | [], _ => .nil
  | [_], _ => by simp
  | a :: b :: r, h => by
    rw [asc, Bool.and_eq_true, decide_eq_true_iff] at h
    have z := asc_pw h.2
    refine List.pairwise_cons.mpr ⟨fun y hy => ?_, z⟩
    rcases List.mem_cons.mp hy with rfl | hy
    · exact h.1
    · have := (List.pairwise_cons.mp z).1 y hy
      omega
theorem set_ok {m : Nat} (h : m ≤ 5) {d : List Nat} (hd : d ∈ setsN m) : d.Pairwise (· < ·) ∧ ∀ x ∈ d, x < m := by
  have z := List.all_eq_true.mp (sets_good5 ⟨m, by omega⟩) d hd
  unfold goodS at z
  rw [Bool.and_eq_true] at z
  exact ⟨asc_pw z.1, fun x hx => of_decide_eq_true (List.all_eq_true.mp z.2 x hx)⟩
theorem upto_len {m t : Nat} (h : m ≤ 12) (k : t ≤ 14) : (upto m t).length ≤ 4096 := by
  have z := of_decide_eq_true (lens12 ⟨m, by omega⟩)
  have y := upto_mono (m := m) (s := t) (14 - t)
  rw [show t + (14 - t) = 14 by omega] at y
  exact Nat.le_trans y z
theorem layer_len {m t : Nat} (h : m ≤ 12) (k : t ≤ 13) : (layer m t).length ≤ 4096 := by
  have z := upto_len (m := m) (t := t + 1) h (by omega)
  rw [show upto m (t + 1) = upto m t ++ layer m t from rfl, List.length_append] at z
  omega
theorem mem_upto {m t : Nat} {d : List Nat} : d ∈ upto m t → ∃ s, s < t ∧ d ∈ layer m s := by
  induction t with
  | zero => intro h; cases h
  | succ t ih =>
    intro h
    rcases List.mem_append.mp h with h | h
    · obtain ⟨s, a, b⟩ := ih h
      exact ⟨s, by omega, b⟩
    · exact ⟨t, by omega, h⟩
theorem layer_deep {m : Nat} : ∀ {t : Nat} {d : List Nat}, d ∈ layer m t → d.length = t
  | 0, d, h => by rw [List.mem_singleton.mp h]; rfl
  | t + 1, d, h => by
    obtain ⟨e, me, h⟩ := List.mem_flatMap.mp h
    obtain ⟨i, _, rfl⟩ := List.mem_map.mp h
    rw [List.length_append, layer_deep me]
    rfl
theorem layer_nxt {m : Nat} : ∀ {t : Nat} {d : List Nat}, d ∈ layer m t → nxt d ≤ m
  | 0, d, h => by rw [List.mem_singleton.mp h]; exact Nat.zero_le _
  | t + 1, d, h => by
    obtain ⟨e, me, h⟩ := List.mem_flatMap.mp h
    obtain ⟨i, mi, rfl⟩ := List.mem_map.mp h
    have := List.mem_range.mp mi
    unfold nxt
    rw [List.getLast?_concat]
    show nxt e + i + 1 ≤ m
    omega
theorem more_at {m : Nat} {d : List Nat} {i : Nat} (h : i < m - nxt d) : (more m d)[i]? = some (d ++ [nxt d + i]) := by
  unfold more
  rw [List.getElem?_map, List.getElem?_range h]
  rfl
theorem more_len (m : Nat) (d : List Nat) : (more m d).length = m - nxt d := by unfold more; simp
/-- twelve hand-overs -/
def chk12 (l : List (List Nat)) : Bool := decide (l.length = 4096) && decide (l.take 13 = [] :: (List.range 12).map fun n => [n]) && decide (l[4095]? = some (List.range 12))
theorem twelve_all : chk12 (setsN 12) = true := by decide +kernel
theorem twelve_len : (setsN 12).length = 4096 := by
  have z := twelve_all
  unfold chk12 at z
  rw [Bool.and_eq_true, Bool.and_eq_true] at z
  exact of_decide_eq_true z.1.1
theorem twelve_first : (setsN 12).take 13 = [] :: (List.range 12).map fun n => [n] := by
  have z := twelve_all
  unfold chk12 at z
  rw [Bool.and_eq_true, Bool.and_eq_true] at z
  exact of_decide_eq_true z.1.2
theorem twelve_last : (setsN 12)[4095]? = some (List.range 12) := by
  have z := twelve_all
  unfold chk12 at z
  rw [Bool.and_eq_true, Bool.and_eq_true] at z
  exact of_decide_eq_true z.2
end K4

/-! k04: for in a generator's body. -/
namespace K4
open PySem PySem.Spec PyProof.Rows L2 GenW

section
variable {prog : Program} {w : World} {A : Around} {R : GenEnd} {Y : Protocol} {n : Nat} {s₀ : Shared} {fs : List Frame} {s : Shared} {env : Env}
/-- one turn of a for loop -/
theorem seg_forTurn {tg : Expr} {it : Value} {body : List Stmt}
    (h : wpAny (model prog w) (A.over (.forLoop tg it body [] env) fs) (pyNext it) (fun r s1 => match r with
        | none => Seg (model prog w) A R Y n s₀ (.block [] env) ((model prog w).den (.block [] env)) fs s1
        | some v => wpAny (model prog w) (A.over (.forLoop tg it body [] env) fs) (letOwnedTupleGo tg it v) (fun _ s2 => wpAny (model prog w) (A.over (.forLoop tg it body [] env) fs) (assign tg env v) (fun _ s3 =>
            Seg (model prog w) A R Y n s₀ (.forLoop tg it body [] env) ((execs body env).wrap (fun f => match f with
              | .next | .cont => .pure (.again (.forLoop tg it body [] env))
              | .brk => .pure (.done .next)
              | .ret v => .pure (.done (.ret v))) (fun e => (do noteFrame e env; theTreesLotGoes e : Sem Unit).wrap (fun _ => .raise e) .raise id id) id id) fs s3)
          (fun x s' => Seg (model prog w) A R Y n s₀ (.forLoop tg it body [] env) ((do noteFrame x env; theTreesLotGoes x : Sem Unit).wrap (fun _ => .raise x) .raise id id) fs s') s2)
          (fun x s' => Seg (model prog w) A R Y n s₀ (.forLoop tg it body [] env) ((do noteFrame x env; theTreesLotGoes x : Sem Unit).wrap (fun _ => .raise x) .raise id id) fs s') s1)
      (fun x s' => Seg (model prog w) A R Y n s₀ (.forLoop tg it body [] env) ((do noteFrame x env; theTreesLotGoes x : Sem Unit).wrap (fun _ => .raise x) .raise id id) fs s') s) :
    Seg (model prog w) A R Y n s₀ (.forLoop tg it body [] env) ((model prog w).den (.forLoop tg it body [] env)) fs s := by
  show Seg _ A R Y n s₀ _ ((forTurn tg it body [] env).onRaise (fun x => do noteFrame x env; theTreesLotGoes x)) fs s
  unfold forTurn
  rw [Sem.onRaise_eq_wrap]
  have ex : ∀ x s', Seg (model prog w) A R Y n s₀ (.forLoop tg it body [] env) ((do noteFrame x env; theTreesLotGoes x : Sem Unit).wrap (fun _ => .raise x) .raise id id) fs s' →
      Seg (model prog w) A R Y n s₀ (.forLoop tg it body [] env) ((do noteFrame x env; theTreesLotGoes x : Sem Unit).bind fun _ => Sem.raise x) fs s' := fun x s' hx => by
    rw [Sem.bind_eq_wrap]; exact hx
  refine seg_bind_wrap (wpAny_standAt ?_)
  refine seg_bind_wrap (wpAny_onRaise (wpAny_mono h (fun r s1 h1 => ?_) fun x s' hx => wpAny_standAt (ex x s' hx)))
  cases r with
  | none => exact seg_again rfl h1
  | some v =>
    refine seg_bind_wrap (wpAny_mono h1 (fun _ s2 h2 => ?_) fun x s' hx => ex x s' hx)
    refine seg_bind_wrap (wpAny_mono h2 (fun _ s3 h3 => ?_) fun x s' hx => ex x s' hx)
    rw [Sem.bind_eq_wrap', Sem.wrap_wrap]
    rw [Sem.wrap_congr (execs body env) _ _ (K' := fun f => match f with
            | .next | .cont => .pure (.again (.forLoop tg it body [] env))
            | .brk => .pure (.done .next)
            | .ret v => .pure (.done (.ret v))) (H' := (fun e => (do noteFrame e env; theTreesLotGoes e : Sem Unit).wrap (fun _ => .raise e) .raise id id))
        (fun f => by cases f <;> rfl)
        (fun e => by first | exact Sem.bind_eq_wrap _ _ | (show (do noteFrame e env; theTreesLotGoes e : Sem Unit).bind (fun _ => .raise e) = _; rw [Sem.bind_eq_wrap]))]
    exact h3
/-- the end of a for loop without else -/
theorem seg_block0 (h : Seg (model prog w) A R Y n s₀ (.block [] env) (.pure (.done .next)) fs s) : Seg (model prog w) A R Y n s₀ (.block [] env) ((model prog w).den (.block [] env)) fs s := h
theorem seg_For {c : Code} {tg iter : Expr} {body : List Stmt} {pos : Pos} {K : Flow → Sem PySem.Fin} {J : Value → Sem PySem.Fin} {gd : Bool → Bool} {lv : List Value → List Value}
    (h : wpAny (model prog w) (A.over c fs) (eval iter env) (fun v s1 => wpAny (model prog w) (A.over c fs) (pyIter v) (fun itv s2 => ∀ p, Seg (model prog w) A R Y n s₀ (.forLoop tg itv body [] env) ((model prog w).den (.forLoop tg itv body [] env))
        (.ret (fun r => ((match r with | .ok f => (.pure f : Sem Flow) | .error e => .raise e).onRaise (cameBack env)).wrap K J gd lv) none (gd false) (lv []) c p [] :: fs) s2)
      (fun x s' => Seg (model prog w) A R Y n s₀ c (J x) fs s') s1) (fun x s' => Seg (model prog w) A R Y n s₀ c (J x) fs s') s)
    (hs : ∀ x, foldedSetIterable iter env x = pure x := by intro _; rfl) :
    Seg (model prog w) A R Y n s₀ c ((exec (.For tg iter body [] pos) env).wrap K J gd lv) fs s := by
  rw [exec_For]
  refine seg_bind_wrap (wpAny_standAt ?_)
  refine seg_bind_wrap (wpAny_mono h (fun v s1 h1 => ?_) fun _ _ hx => hx)
  refine seg_bind_wrap (wpAny_of_eq (hs v) ?_)
  refine seg_bind_wrap (wpAny_standAt ?_)
  refine seg_bind_wrap (wpAny_holding (wpAny_mono h1 (fun itv s2 h2 => ?_) fun _ _ hx => hx))
  exact seg_call h2
end
section
variable {X : Cx} {tg : Expr}
def tGFor (wi : TI) (g : TG) (tb : TGn) : TGn := fun D ys σ H => wi σ H fun J H1 => ∃ W : Nat → Nat → List V → L2.St → Hp → Prop, (∃ m, W 0 m ys σ H1) ∧ ∀ i m ys σ H, W i m ys σ H →
  (J.stop i H ∧ D.nx ys σ H) ∨ (J.go i H ∧ ∃ N : List V → L2.St → Hp → Prop, (∀ ys' σ' H', N ys' σ' H' → ∃ m', m' < m ∧ W (i + 1) m' ys' σ' H') ∧ ∀ x H', J.yld i H x H' → g x σ H' fun σ2 H2 => tb { D with nx := N, ct := N, bk := D.nx } ys σ2 H2)
theorem gs_for {iter : Expr} {body : List Stmt} {wi : TI} {g : TG} {tb : TGn} {pos : Pos} (hp : PassesOwn (model X.prog X.w) X.A X.env X.xe) (hc : X.calm = true) (hi : PI X tg iter wi) (hg : PG X tg g) (hb : GSs X body tb)
    (hs : ∀ x, foldedSetIterable iter X.env x = pure x := by intro _; rfl) : GS X (.For tg iter body [] pos) (tGFor wi g tb) := by
  refine ⟨fun A S ip R n ys s₀ c fs K J gd lv s σ H D gc hn k hI ht => ?_⟩
  obtain ⟨acc0, cc0, r0, I0⟩ := hI
  refine seg_For ?_ hs
  rw [gc.over]
  refine wpAny_mono (hi.run _ s σ H _ I0 ht) (fun v s1 h1 => ?_) fun x s' hx => k.exc n s₀ x s' hx
  refine wpAny_mono h1 (fun itv s2 h2 => ?_) fun x s' hx => k.exc n s₀ x s' hx
  intro p
  obtain ⟨it, fp, tn, Jt, H2, e, I2, T, st2, f2, W, ⟨m0, w0⟩, turn⟩ := h2
  subst e
  have gl : ∀ (c' : Code) (_ : c'.weight = 0) (_ : c'.cUnits = 0) (kk : Result → Sem PySem.Fin), GC X S ip A c' (.ret kk none (gd false) (lv []) c p [] :: fs) id := fun c' hw hu kk => gc_loop (k := kk) (c' := c') (l := lv []) (kp := []) (p := p) gc hw hu
  -- what stays true of the iterator's objects
  have stat : ∀ {H' : Hp} {acc : Array Value} {cc : Nat}, (∀ b ∈ fp, H' b = none) → ∀ b ∈ fp, FpOk X ((S, lstObj acc cc) :: ip) H' b := fun {H' acc cc} hn b hb => by
    obtain ⟨_, a2, a3, a4, a5, a6⟩ := f2 b hb
    refine ⟨hn b hb, a2, a3, a4, a5, fun q hq => ?_⟩
    rcases List.mem_append.mp hq with z | z
    · exact a6 q (List.mem_append_left _ z)
    · rcases List.mem_cons.mp z with z | z
      · rw [z]; exact a6 (S, lstObj acc0 cc0) (List.mem_append_right _ List.mem_cons_self)
      · exact a6 q (List.mem_append_right _ (List.mem_cons_of_mem _ z))
  have loop : ∀ (m i n : Nat) (ys : List V) (s₀ s : Shared) (σ : L2.St) (H : Hp), n + ys.length = sizeLine → W i m ys σ H → GI X S ip ys σ H s → tn i s.heap → (∀ b ∈ fp, H b = none) →
      Seg (model X.prog X.w) A R (GY X S) n s₀ (.forLoop tg (.ref it) body [] X.env) ((model X.prog X.w).den (.forLoop tg (.ref it) body [] X.env))
        (.ret (fun r => ((match r with | .ok f => (.pure f : Sem Flow) | .error e => .raise e).onRaise (cameBack X.env)).wrap K J gd lv) none (gd false) (lv []) c p [] :: fs) s := by
    intro m
    induction m using Nat.strongRecOn with
    | ind m ih =>
      intro i n ys s₀ s σ H hn w hI stt fr
      have ee : ∀ (n : Nat) (s₀ : Shared) (x : Value) (s' : Shared), X.xe x s' → Seg (model X.prog X.w) A R (GY X S) n s₀ (.forLoop tg (.ref it) body [] X.env)
          ((do noteFrame x X.env; theTreesLotGoes x : Sem Unit).wrap (fun _ => .raise x) .raise id id)
          (.ret (fun r => ((match r with | .ok f => (.pure f : Sem Flow) | .error e => .raise e).onRaise (cameBack X.env)).wrap K J gd lv) none (gd false) (lv []) c p [] :: fs) s' := fun n s₀ x s' hx => by
        refine seg_wrap ?_
        rw [(gl _ rfl rfl _).over]
        refine wpAny_bind (wpAny_mono (hp x s' hx) (fun _ s'' hcb => wpAny_theTreesLotGoes ?_) fun y s'' hcb => ?_)
        · exact seg_leaf (.error x) (seg_cameBack gc k hcb)
        · exact seg_leaf (.error y) (seg_cameBack gc k hcb)
      obtain ⟨acc, cc, r, I⟩ := hI
      refine seg_forTurn ?_
      rw [(gl _ rfl rfl _).over]
      rcases turn i m ys σ H w with ⟨stop, qn⟩ | ⟨go, N, hN, step⟩
      · refine wpAny_mono (T.done X rfl rfl rfl hc i _ s σ H X.xe I (stat fr) stt stop) (fun r' s4 ⟨hr, I4⟩ => ?_) fun x s' hx => ee n s₀ x s' hx
        subst hr
        exact seg_block0 (seg_leaf (.ok .next) (k.ok n ys s₀ s4 .next hn ⟨σ, H, ⟨acc, cc, r, I4⟩, qn⟩))
      · refine wpAny_mono (T.item X rfl rfl rfl hc i _ s σ H X.xe I (stat fr) stt go) (fun r' s4 ⟨u, hr, h4⟩ => ?_) fun x s' hx => ee n s₀ x s' hx
        subst hr
        refine wpAny_mono h4 (fun _ s5 ⟨x, H5, I5, r5, y5, st5, fr5⟩ => ?_) fun x s' hx => ee n s₀ x s' hx
        have I5' := I5.pinned (stat fr5) (T.obj _ _ st5)
        refine wpAny_mono (hg.run _ s5 σ H5 x u _ I5' r5 (step x H5 y5)) (fun _ s6 ⟨σ6, H6, I6, q6⟩ => ?_) fun x s' hx => ee n s₀ x s' hx
        have gip : ∀ q ∈ ip ++ pinsAt fp s5.heap, q.1 ≠ S := fun q hq => by
          rcases List.mem_append.mp hq with z | z
          · exact gc.ip q z
          · obtain ⟨z1, _⟩ := of_pinsAt z
            exact fun e => (f2 q.1 z1).2.2.2.2.2 (S, lstObj acc0 cc0) (List.mem_append_right _ List.mem_cons_self) e.symm
        have g0 := gl (.forLoop tg (.ref it) body [] X.env) rfl rfl (fun r => ((match r with | .ok f => (.pure f : Sem Flow) | .error e => .raise e).onRaise (cameBack X.env)).wrap K J gd lv)
        have gci : GC X S (ip ++ pinsAt fp s5.heap) A (.forLoop tg (.ref it) body [] X.env) (.ret (fun r => ((match r with | .ok f => (.pure f : Sem Flow) | .error e => .raise e).onRaise (cameBack X.env)).wrap K J gd lv) none (gd false) (lv []) c p [] :: fs) id :=
          ⟨g0.pn, gip, g0.apart, g0.over, g0.split, g0.guard, g0.gd⟩
        have unp : ∀ {ys' : List V} {σ' : L2.St} {H' : Hp} {s' : Shared}, GI X S (ip ++ pinsAt fp s5.heap) ys' σ' H' s' → GI X S ip ys' σ' H' s' ∧ tn (i + 1) s'.heap ∧ ∀ b ∈ fp, H' b = none := fun {ys' σ' H' s'} hG => by
          obtain ⟨acc', cc', r', I'⟩ := hG
          have pin : ∀ b ∈ fp, ∀ o, s5.heap.get? b = some o → s'.heap.get? b = some o ∧ H' b = none := fun b hb o e => by
            have z := I'.pin (b, o) (List.mem_append_right _ (List.mem_cons_of_mem _ (List.mem_append_right _ (mem_pinsAt hb e))))
            exact ⟨z.1, z.2.1⟩
          refine ⟨⟨acc', cc', r', Inv.unpinned (pins := (S, lstObj acc' cc') :: ip) I'⟩, T.keep _ _ _ st5 fun b hb o e => (pin b hb o e).1, fun b hb => ?_⟩
          obtain ⟨o, e, _⟩ := T.obj _ _ st5 b hb
          exact (pin b hb o e).2
        refine hb.run A S (ip ++ pinsAt fp s5.heap) R n ys s₀ _ _ _ _ id id s6 σ6 H6 { D with nx := N, ct := N, bk := D.nx } gci hn ⟨fun n' ys' s₀' s7 f hn' hs => ?_, fun n' s₀' x s7 hx => ee n' s₀' x s7 hx⟩ ⟨acc, cc, r, I6⟩ q6
        cases f with
        | next =>
          obtain ⟨σ7, H7, I7, n7⟩ := hs
          obtain ⟨m', hm, w7⟩ := hN ys' σ7 H7 n7
          obtain ⟨u1, u2, u3⟩ := unp I7
          exact seg_again rfl (ih m' hm (i + 1) n' ys' s₀' s7 σ7 H7 hn' w7 u1 u2 u3)
        | cont =>
          obtain ⟨σ7, H7, I7, n7⟩ := hs
          obtain ⟨m', hm, w7⟩ := hN ys' σ7 H7 n7
          obtain ⟨u1, u2, u3⟩ := unp I7
          exact seg_again rfl (ih m' hm (i + 1) n' ys' s₀' s7 σ7 H7 hn' w7 u1 u2 u3)
        | brk =>
          obtain ⟨σ7, H7, I7, q7⟩ := hs
          exact seg_leaf (.ok .next) (k.ok n' ys' s₀' s7 .next hn' ⟨σ7, H7, (unp I7).1, q7⟩)
        | ret v =>
          obtain ⟨x7, σ7, H7, I7, r7, q7⟩ := hs
          exact seg_leaf (.ok (.ret v)) (k.ok n' ys' s₀' s7 (.ret v) hn' ⟨x7, σ7, H7, (unp I7).1, r7, q7⟩)
  exact loop m0 0 n ys s₀ s2 σ H2 hn w0 ⟨acc0, cc0, r0, I2⟩ st2 fun b hb => (f2 b hb).1
end
end K4

/-! k04: comprehensions with two walks; loops of generators. -/
namespace K5
open PySem PySem.Spec PyProof.Rows L2 LamX K1 K18 K4

section
variable {J J' : It} {n n' : Nat} {G G' : Hp → Prop} {Y Y' : Nat → Hp → V → Hp → Prop}
theorem lc2_outW (w : Walk J n G Y) {g g1 : TG} {tt1 : TT} {te : TE} {wi1 : TI} {vs vs1 : List Nat} {σ : L2.St} {H1 : Hp} {D : Addr} {Qd : Hp → Prop} (Pv : Nat → Hp → Prop) (h0 : Pv 0 (upd H1 D (.lst []))) (hG : ∀ i H, i ≤ n → Pv i H → G H)
    (hs : ∀ i x H H', i < n → Pv i H → Y i H x H' → g x (wipe σ vs) H' fun σ2 H2 => wipe σ2 vs = wipe σ vs ∧ wi1 σ2 H2 fun J1 H4 => ∃ W1 : Nat → Nat → Hp → Prop, (∃ m, W1 0 m H4) ∧ ∀ j k H, W1 j k H →
      (J1.stop j H ∧ Pv (i + 1) H) ∨ (J1.go j H ∧ ∃ Nx1 : Hp → Prop, (∀ H', Nx1 H' → ∃ k', k' < k ∧ W1 (j + 1) k' H') ∧ ∀ x H', J1.yld j H x H' → g1 x (wipe σ2 vs1) H' fun σ3 H5 => wipe σ3 vs1 = wipe σ2 vs1 ∧ tt1 σ3 H5 fun b H6 =>
        if b = true then te σ3 H6 fun y H7 => ∃ acc, H7 D = some (.lst acc) ∧ acc.length < sizeLine ∧ Nx1 (upd H7 D (.lst (acc ++ [y]))) else Nx1 H6)) (hd : ∀ H, Pv n H → Qd H) :
    ∃ W : Nat → Nat → Hp → Prop, (∃ m, W 0 m (upd H1 D (.lst []))) ∧ ∀ i m H, W i m H →
      (J.stop i H ∧ Qd H) ∨ (J.go i H ∧ ∃ Nx : Hp → Prop, (∀ H', Nx H' → ∃ m', m' < m ∧ W (i + 1) m' H') ∧ ∀ x H', J.yld i H x H' → g x (wipe σ vs) H' fun σ2 H2 => wipe σ2 vs = wipe σ vs ∧ tYes σ2 H2 fun b H3 =>
        if b = true then wi1 σ2 H3 fun J1 H4 => ∃ W1 : Nat → Nat → Hp → Prop, (∃ m, W1 0 m H4) ∧ ∀ j k H, W1 j k H →
          (J1.stop j H ∧ Nx H) ∨ (J1.go j H ∧ ∃ Nx1 : Hp → Prop, (∀ H', Nx1 H' → ∃ k', k' < k ∧ W1 (j + 1) k' H') ∧ ∀ x H', J1.yld j H x H' → g1 x (wipe σ2 vs1) H' fun σ3 H5 => wipe σ3 vs1 = wipe σ2 vs1 ∧ tt1 σ3 H5 fun b H6 =>
            if b = true then te σ3 H6 fun y H7 => ∃ acc, H7 D = some (.lst acc) ∧ acc.length < sizeLine ∧ Nx1 (upd H7 D (.lst (acc ++ [y]))) else Nx1 H6)
        else Nx H3) := by
  refine ⟨fun i m H => m = n - i ∧ i ≤ n ∧ Pv i H, ⟨_, rfl, Nat.zero_le _, h0⟩, ?_⟩
  rintro i m H ⟨rfl, hi, p⟩
  have q := hG i H hi p
  by_cases lt : i < n
  · exact .inr ⟨w.goes i H lt q, Pv (i + 1), fun H' p' => ⟨_, by omega, rfl, lt, p'⟩, fun x H' y => hs i x H H' lt p (w.yields i H x H' lt q y)⟩
  · have e : i = n := by omega
    subst e
    exact .inl ⟨w.stops H q, hd H p⟩
theorem lc2_inW (w : Walk J' n' G' Y') {g1 : TG} {te : TE} {vs1 : List Nat} {σ2 : L2.St} {H4 : Hp} {D : Addr} {Nx : Hp → Prop} (Pw : Nat → Hp → Prop) (h0 : Pw 0 H4) (hG : ∀ i H, i ≤ n' → Pw i H → G' H)
    (hs : ∀ j y H H', j < n' → Pw j H → Y' j H y H' → g1 y (wipe σ2 vs1) H' fun σ3 H5 => wipe σ3 vs1 = wipe σ2 vs1 ∧ te σ3 H5 fun z H7 => ∃ acc, H7 D = some (.lst acc) ∧ acc.length < sizeLine ∧ Pw (j + 1) (upd H7 D (.lst (acc ++ [z])))) (hd : ∀ H, Pw n' H → Nx H) :
    ∃ W1 : Nat → Nat → Hp → Prop, (∃ m, W1 0 m H4) ∧ ∀ j k H, W1 j k H →
      (J'.stop j H ∧ Nx H) ∨ (J'.go j H ∧ ∃ Nx1 : Hp → Prop, (∀ H', Nx1 H' → ∃ k', k' < k ∧ W1 (j + 1) k' H') ∧ ∀ x H', J'.yld j H x H' → g1 x (wipe σ2 vs1) H' fun σ3 H5 => wipe σ3 vs1 = wipe σ2 vs1 ∧ tYes σ3 H5 fun c H6 =>
        if c = true then te σ3 H6 fun y H7 => ∃ acc, H7 D = some (.lst acc) ∧ acc.length < sizeLine ∧ Nx1 (upd H7 D (.lst (acc ++ [y]))) else Nx1 H6) := by
  refine ⟨fun i m H => m = n' - i ∧ i ≤ n' ∧ Pw i H, ⟨_, rfl, Nat.zero_le _, h0⟩, ?_⟩
  rintro i m H ⟨rfl, hi, p⟩
  have q := hG i H hi p
  by_cases lt : i < n'
  · exact .inr ⟨w.goes i H lt q, Pw (i + 1), fun H' p' => ⟨_, by omega, rfl, lt, p'⟩, fun x H' y => hs i x H H' lt p (w.yields i H x H' lt q y)⟩
  · have e : i = n' := by omega
    subst e
    exact .inl ⟨w.stops H q, hd H p⟩
/-- a generator's loop -/
theorem gfor_it (w : Walk J n G Y) {g : TG} {tb : TGn} {D : GEnds} {ys : List V} {σ : L2.St} {H : Hp} (Pv : Nat → List V → L2.St → Hp → Prop) (h0 : Pv 0 ys σ H) (hG : ∀ i ys σ H, i ≤ n → Pv i ys σ H → G H)
    (hs : ∀ i x ys σ H H', i < n → Pv i ys σ H → Y i H x H' → g x σ H' fun σ2 H2 => tb { D with nx := Pv (i + 1), ct := Pv (i + 1), bk := D.nx } ys σ2 H2) (hd : ∀ ys σ H, Pv n ys σ H → D.nx ys σ H) :
    ∃ W : Nat → Nat → List V → L2.St → Hp → Prop, (∃ m, W 0 m ys σ H) ∧ ∀ i m ys σ H, W i m ys σ H →
      (J.stop i H ∧ D.nx ys σ H) ∨ (J.go i H ∧ ∃ N : List V → L2.St → Hp → Prop, (∀ ys' σ' H', N ys' σ' H' → ∃ m', m' < m ∧ W (i + 1) m' ys' σ' H') ∧ ∀ x H', J.yld i H x H' → g x σ H' fun σ2 H2 => tb { D with nx := N, ct := N, bk := D.nx } ys σ2 H2) := by
  refine ⟨fun i m ys σ H => m = n - i ∧ i ≤ n ∧ Pv i ys σ H, ⟨n, by simp, Nat.zero_le _, h0⟩, ?_⟩
  rintro i m ys σ H ⟨rfl, hi, p⟩
  have q := hG i ys σ H hi p
  by_cases lt : i < n
  · exact .inr ⟨w.goes i H lt q, Pv (i + 1), fun ys' σ' H' p' => ⟨n - (i + 1), by omega, rfl, lt, p'⟩, fun x H' y => hs i x ys σ H H' lt p (w.yields i H x H' lt q y)⟩
  · have e : i = n := by omega
    subst e
    exact .inl ⟨w.stops H q, hd ys σ H p⟩
end
theorem at_last {xs : List V} {x : V} (n : 0 < xs.length) (h : xs[xs.length - 1]? = some x) : atI xs (-1) = some x := by
  unfold atI ixN
  rw [if_neg (by decide), if_pos (by omega)]
  show xs[(-1 + (xs.length : Int)).toNat]? = _
  rw [show (-1 + (xs.length : Int)).toNat = xs.length - 1 by omega]
  exact h
end K5

/-! k04: sets_in_order, the law's all sets. -/
namespace K5
open PySem PySem.Spec PyProof.Rows L2 LamX K1 K18 K4

/-- at a stands the tuple of a set -/
def TupN (H : Hp) (a : Addr) (d : List Nat) : Prop := H a = some (.tup (kV d))
abbrev Sets (H : Hp) (as : List Addr) (ds : List (List Nat)) : Prop := All2 (TupN H) as ds
/-- a list of sets -/
def SetL (H : Hp) (l : Addr) (ds : List (List Nat)) : Prop := ∃ as, H l = some (.lst (as.map V.ref)) ∧ Sets H as ds
theorem Sets.same {H H' : Hp} {as : List Addr} {ds : List (List Nat)} (s : Same H H') (h : Sets H as ds) : Sets H' as ds := h.mono fun _ _ z => s _ _ z
theorem SetL.same {H H' : Hp} {l : Addr} {ds : List (List Nat)} (s : Same H H') (h : SetL H l ds) : SetL H' l ds := let ⟨as, a, b⟩ := h; ⟨as, s _ _ a, b.same s⟩
theorem Sets.upd {H : Hp} {D : Addr} {xs : List V} {o : HO} {as : List Addr} {ds : List (List Nat)} (hD : H D = some (.lst xs)) (h : Sets H as ds) : Sets (upd H D o) as ds := h.mono fun _ _ z => by
  show L2.upd H D o _ = _
  rw [upd_ne (ne_of z hD (fun z => nomatch z))]; exact z
theorem kV_app (d : List Nat) (x : Nat) : kV d ++ [V.int x] = kV (d ++ [x]) := by unfold kV; rw [List.map_append]; rfl
theorem kV_len (d : List Nat) : (kV d).length = d.length := List.length_map _
def spNext : Sp := fun vs H Q _ => ∃ (a : Addr) (d : List Nat), vs = [.ref a] ∧ TupN H a d ∧ d.length ≤ 1000 ∧ Q (.int (nxt d : Nat)) H
def spSetsIn : Sp := fun vs H Q _ => ∃ m : Nat, vs = [.int m] ∧ m ≤ 12 ∧ ∀ l H', Same H H' → H l = none → SetL H' l (setsN m) → Q (.ref l) H'
theorem nxt_last {d : List Nat} {x : Nat} (h : d.getLast? = some x) : nxt d = x + 1 := by unfold nxt; rw [h]
theorem flat_le {α β : Type} (f : α → List β) (L : List α) (i : Nat) : ((L.take i).flatMap f).length ≤ (L.flatMap f).length := by
  have z := congrArg (fun l => (l.flatMap f).length) (List.take_append_drop i L)
  simp only [List.flatMap_append, List.length_append] at z
  omega
theorem flat_at {α β : Type} (f : α → List β) {L : List α} {i : Nat} {x : α} (h : L[i]? = some x) : (L.take (i + 1)).flatMap f = (L.take i).flatMap f ++ f x := by
  rw [take_more h, List.flatMap_append]
  simp
section
variable {P : Program} {w : World} {K : PySem.W.Frag} {mg : Str → Option Value} {base : Heap} {f : Addr} {fd : FuncData}
theorem scNext : FnScope ["done"] ["done"] (defScope sNextNo) := ⟨rfl, rfl, rfl, by decide +kernel, rfl, by decide +kernel, by decide +kernel⟩
theorem ok_next (F : DefAt K "_next_number" "_next_number" sNextNo f fd) : FnOk P w K mg base CX0 1 f fd ["done"] spNext := by
  refine okN F scNext (fun vs H Q E ⟨a, d, e, _⟩ => by rw [e]; rfl) (fun cdv A outer s H vs Q E hr ⟨a, d, e, ha, l, q⟩ => ?_)
  subst e
  refine ⟨_, pss_one (ps_ret (pe_ifExp (pt_truth (pv 0) (fun _ => rfl)) (pe_op op_add (pe_ix ix_tup (pv 0) (pe_un un_neg pe_int) (fun _ _ => rfl)) pe_int) pe_int)), ?_⟩
  refine ⟨_, rfl, !(kV d).isEmpty, .inr (.inl ⟨_, SqT.of ha, rfl⟩), ?_⟩
  cases e : d.getLast? with
  | none =>
    rw [List.getLast?_eq_none_iff] at e
    subst e
    exact q
  | some x =>
    have n0 : d ≠ [] := fun z => by rw [z] at e; cases e
    have l0 : 0 < d.length := List.length_pos_iff.mpr n0
    have z : (!(kV d).isEmpty) = true := by
      cases d with
      | nil => exact absurd rfl n0
      | cons => rfl
    rw [z]
    rw [nxt_last e] at q
    refine iteT ⟨_, rfl, 1, rfl, a, kV d, _, _, rfl, rfl, SqT.of ha, at_last (by rw [kV_len]; exact l0) (v_at e), _, _, rfl, rfl, ?_⟩
    exact q
where
  v_at {d : List Nat} {x : Nat} (e : d.getLast? = some x) : (kV d)[(kV d).length - 1]? = some (.int x) := by
    rw [kV_len]
    unfold kV
    rw [List.getElem?_map, ← List.getLast?_eq_getElem?, e]
    rfl
abbrev HasNext (P : Program) (w : World) (K : PySem.W.Frag) (mg : Str → Option Value) (base : Heap) : Prop := Has P w K mg base CX0 1 "_next_number" ["done"] spNext
abbrev nSetsIn : List Str := ["many", "found", "layer", "_", "done", "number"]
theorem scSetsIn : FnScope nSetsIn ["many"] (defScope sSetsIn) := ⟨rfl, rfl, rfl, by decide +kernel, rfl, by decide +kernel, by decide +kernel⟩
theorem ok_setsIn (G : Glob mg) (HN : HasNext P w K mg base) (F : DefAt K "sets_in_order" "sets_in_order" sSetsIn f fd) : FnOk P w K mg base CX0 2 f fd ["many"] spSetsIn := by
  obtain ⟨fn, fdn, mN, kN, bN, GN⟩ := HN.h
  refine okN F scSetsIn (fun vs H Q E ⟨m, e, _⟩ => by rw [e]; rfl) (fun cdv A outer s H vs Q E hr ⟨m, e, m12, q⟩ => ?_)
  subst e
  refine ⟨_, pss_cons (ps_set (i := 1) scSetsIn.nd rfl (Or.inl rfl) (pe_lst (pa_cons (pe_tup pa_nil) pa_nil)))
    (pss_cons (ps_set (i := 2) scSetsIn.nd rfl (Or.inl rfl) (pe_lst (pa_cons (pe_tup pa_nil) pa_nil)))
    (pss_cons (ps_for PassesOwn.never rfl (pi_range1 (by rfl) G.range (pa_cons (pv 0) pa_nil)) (pg_name (i := 3) scSetsIn.nd rfl (Or.inl rfl))
      (pss_cons (ps_setLc2 (i := 2) (own := [("done", 4), ("number", 5)]) (vs1 := [5]) (g := gName 4) (g1 := gName 5) (tt := tYes) (tt1 := tYes) rfl scSetsIn.nd rfl rfl (by rfl) (pi_list (pv 2)) (blkOk_by (N := nSetsIn) (sc := defScope sSetsIn) (by decide +kernel)) (by simp)
          (fun _ _ _ _ _ => pg_name (i := 4) scSetsIn.nd rfl (Or.inl rfl)) (fun _ _ _ _ _ => pts_nil) (fun _ _ _ _ _ => pi_range2 (by rfl) G.range (pa_cons (pe_call GN hr rfl mN kN bN .nil pass0 (pa_cons (pv 4) pa_nil)) (pa_cons (pv 0) pa_nil)))
          (fun _ _ _ _ _ => pg_name (i := 5) scSetsIn.nd rfl (Or.inl rfl)) (fun _ _ _ _ _ => pts_nil) (fun _ _ _ _ _ => show PE _ _ (tTup (StX.tStar K (tVar 4) (tCons (tVar 5) tNil))) from pe_tup (StX.pa_star (pv 4) (pa_cons (pv 5) pa_nil))))
      (pss_one (ps_set (i := 1) scSetsIn.nd rfl (Or.inl rfl) (pe_op op_cat (pv 1) (pv 2))))))
    (pss_one (ps_ret (pv 1))))), ?_⟩
  have sz : sizeLine = 16777216 := sizeLine_eq
  refine ⟨(by show 0 ≤ sizeLine; omega), fun t0 nt0 => ⟨(by show 1 ≤ sizeLine; omega), fun l0 nl0 => ?_⟩⟩
  have s1 := upd_new (o := .tup []) nt0
  have h1 : upd H t0 (.tup []) t0 = some (.tup []) := upd_same
  generalize upd H t0 (.tup []) = H1 at s1 h1 nl0 ⊢
  have s2 := upd_new (o := .lst [V.ref t0]) nl0
  have h2 : upd H1 l0 (.lst [V.ref t0]) l0 = some (.lst [V.ref t0]) := upd_same
  generalize upd H1 l0 (.lst [V.ref t0]) = H2 at s2 h2 ⊢
  refine ⟨(by show 0 ≤ sizeLine; omega), fun t1 nt1 => ⟨(by show 1 ≤ sizeLine; omega), fun l1 nl1 => ?_⟩⟩
  have s3 := upd_new (o := .tup []) nt1
  have h3 : upd H2 t1 (.tup []) t1 = some (.tup []) := upd_same
  generalize upd H2 t1 (.tup []) = H3 at s3 h3 nl1 ⊢
  have s4 := upd_new (o := .lst [V.ref t1]) nl1
  have h4 : upd H3 l1 (.lst [V.ref t1]) l1 = some (.lst [V.ref t1]) := upd_same
  generalize upd H3 l1 (.lst [V.ref t1]) = H4 at s4 h4 ⊢
  have s24 := s3.trans s4
  have s04 := (s1.trans s2).trans s24
  refine ⟨_, rfl, (m : Int), rfl, by omega, by omega, ?_⟩
  refine for_range (lo := 0) (n := (m : Int).toNat) (fun i σ H5 => ∃ (lf ll : Addr) (z3 : Option V), σ = [some (.int m), some (.ref lf), some (.ref ll), z3, none, none] ∧ Same H H5 ∧ H lf = none ∧ SetL H5 lf (upto m (i + 1)) ∧ SetL H5 ll (layer m i))
    ⟨l0, l1, none, rfl, s04, s1.free nl0, ⟨[t0], s24 _ _ h2, All2.nil.snoc (s24 _ _ (s2 _ _ h1))⟩, ⟨[t1], h4, All2.nil.snoc (s4 _ _ h3)⟩⟩ ?_ ?_
  · rintro i σ H5 hi ⟨lf, ll, z3, rfl, s5, nlf, sf, sl⟩
    have him : i < m := hi
    obtain ⟨as, hl, al⟩ := id sl
    refine ⟨_, rfl, ll, rfl, ⟨_, SqL.of hl⟩, fun D hD => ?_⟩
    have lenL : ((layer m i).flatMap (more m)).length ≤ 4096 := layer_len (t := i + 1) m12 (by omega)
    refine lc2_outW (walk_list (xs := as.map V.ref)) (fun j H6 => Same H5 H6 ∧ ∃ bs, H6 D = some (.lst (bs.map V.ref)) ∧ Sets H6 bs (((layer m i).take j).flatMap (more m))) ⟨upd_new hD, [], upd_same, .nil⟩ (fun j H6 _ z => SqL.of (z.1 _ _ hl)) ?_ ?_
    · rintro j x H6 H7 hj ⟨s6, bs, hb, bl⟩ ⟨rfl, ex⟩
      obtain ⟨a, ea, rfl⟩ := map_at ex
      obtain ⟨d, ed, ha⟩ := al.get ea
      have had := s6 _ _ ha
      have dl : d.length = i := layer_deep (List.mem_of_getElem? ed)
      have step := flat_at (more m) ed
      have tot := flat_le (more m) (layer m i) (j + 1)
      have nb := layer_nxt (List.mem_of_getElem? ed)
      refine ⟨rfl, _, rfl, a, d, rfl, had, by omega, _, rfl, (nxt d : Int), (m : Int), rfl, ⟨by omega, by omega, by omega, by omega⟩, ?_⟩
      refine lc2_inW walk_range (fun k H7 => Same H5 H7 ∧ ∃ bs, H7 D = some (.lst (bs.map V.ref)) ∧ Sets H7 bs (((layer m i).take j).flatMap (more m) ++ (more m d).take k)) ⟨s6, bs, hb, by rw [List.take_zero, List.append_nil]; exact bl⟩ (fun _ _ _ _ => trivial) ?_ ?_
      · rintro k y H7 H8 hk ⟨s7, bs, hb, bl⟩ ⟨rfl, rfl⟩
        have hk2 : k < m - nxt d := by omega
        have ha7 := s7 _ _ ha
        refine ⟨rfl, _, rfl, a, kV d, rfl, .inl (SqT.of ha7), _, rfl, (by show (kV d ++ [_]).length ≤ _; rw [List.length_append, kV_len]; simp; omega), fun p np => ?_⟩
        have s8 := upd_new (o := .tup (kV d ++ [V.int ((nxt d : Int) + (k : Int))])) np
        have hp : upd H8 p (.tup (kV d ++ [V.int ((nxt d : Int) + (k : Int))])) p = some (.tup (kV (d ++ [nxt d + k]))) := by rw [upd_same, ← kV_app]; rfl
        generalize upd H8 p (.tup (kV d ++ [V.int ((nxt d : Int) + (k : Int))])) = H9 at s8 hp ⊢
        have hb9 := s8 _ _ hb
        have em := more_at hk2
        refine ⟨_, hb9, ?_, same_upd hD (s7.trans s8), bs ++ [p], by rw [upd_same, List.map_append]; rfl, ?_⟩
        · rw [step, List.length_append] at tot
          rw [List.length_map, bl.1, List.length_append, List.length_take]
          omega
        · rw [take_more em, ← List.append_assoc]
          exact Sets.upd hb9 ((bl.same s8).snoc hp)
      · rintro H7 ⟨s7, bs, hb, bl⟩
        refine ⟨s7, bs, hb, ?_⟩
        rw [step]
        rw [show ((m : Int) - (nxt d : Int)).toNat = (more m d).length by rw [more_len]; omega, List.take_length] at bl
        exact bl
    · rintro H6 ⟨s6, bs, hb, bl⟩
      rw [List.length_map, al.1, List.take_length] at bl
      obtain ⟨fs, hf, fl⟩ := sf.same s6
      have z := upto_len (m := m) (t := i + 2) m12 (by omega)
      rw [show upto m (i + 2) = upto m (i + 1) ++ layer m (i + 1) from rfl, List.length_append] at z
      refine ⟨_, rfl, _, rfl, lf, D, _, _, rfl, rfl, hf, hb, (by rw [List.length_map, List.length_map, fl.1, bl.1]; exact Nat.le_trans z (by omega)), fun p np => ?_⟩
      have s7 := upd_new (o := .lst (fs.map V.ref ++ bs.map V.ref)) np
      refine ⟨p, D, _, rfl, (s5.trans s6).trans s7, (s5.trans s6).free np, ⟨fs ++ bs, by rw [upd_same, List.map_append], (fl.same s7).app (bl.same s7)⟩, ⟨bs, s7 _ _ hb, bl.same s7⟩⟩
  · rintro σ H5 ⟨lf, ll, z3, rfl, s5, nlf, sf, sl⟩
    exact ⟨_, rfl, q lf H5 s5 nlf sf⟩
end
end K5

/-! k04: sets as data; the law's all sets. -/
namespace K5
open PySem PySem.Spec PyProof.Rows L2 LamX K1 K18 K4

def kD (ks : List Nat) : List PyData := ks.map fun k : Nat => PyData.int k
def setD (d : List Nat) : PyData := .tuple (kD d)
theorem dps_k {K : PySem.W.Frag} {H : Hp} : ∀ ks : List Nat, DpAll K H (kV ks) (kD ks)
  | [] => .nil
  | k :: ks => .cons (.int k) (dps_k ks)
theorem sh_k (ks : List Nat) : SeqAt.shaped (.tuple (kD ks)) = true ∧ SeqAt.shaped (.list (kD ks)) = true := shaped_tup (f := fun k : Nat => PyData.int k) (fun n => by simp [PyData.canLay0]) (fun n => by simp [PyData.depth]) ks
theorem eqv_n (a b : Nat) : PyData.eqv (.int a) (.int b) = decide (a = b) := by
  simp only [PyData.eqv]
  by_cases h : a = b
  · subst h; simp
  · have : ¬ ((a : Int) = b) := by omega
    simp [h, this]
theorem eqv_k (a b : List Nat) : PyData.eqv (.tuple (kD a)) (.tuple (kD b)) = decide (a = b) := by
  rw [PyData.eqv]
  exact eqvAll_map (f := fun k : Nat => PyData.int k) (fun a b => eqv_n a b) a b
theorem eqv_kL (a b : List Nat) : PyData.eqv (.list (kD a)) (.list (kD b)) = decide (a = b) := by
  rw [PyData.eqv]
  exact eqvAll_map (f := fun k : Nat => PyData.int k) (fun a b => eqv_n a b) a b
theorem dp_set {K : PySem.W.Frag} {H : Hp} {a : Addr} {d : List Nat} (h : TupN H a d) : Dp K H (.ref a) (setD d) := .tup (SqT.of h) (dps_k d)
theorem kD_deep (d : List Nat) : PyData.depthAll (kD d) ≤ 8 := deep_all (f := fun k : Nat => PyData.int k) (fun n => by simp [PyData.depth]) d
theorem kD_deep1 : ∀ d : List Nat, PyData.depthAll (kD d) ≤ 1
  | [] => by simp [kD, PyData.depthAll]
  | k :: ks => by
    have := kD_deep1 ks
    show PyData.depthAll (.int k :: kD ks) ≤ 1
    rw [PyData.depthAll]
    simp [PyData.depth]
    exact this
theorem sets_sh (ds : List (List Nat)) : SeqAt.shaped (.list (ds.map setD)) = true := by
  refine (shaped_tup (f := setD) (fun d => ?_) (fun d => ?_) ds).2
  · show PyData.canLay0 (.tuple (kD d)) = true
    rw [PyData.canLay0]
    exact lay_all (f := fun k : Nat => PyData.int k) (fun n => by simp [PyData.canLay0]) d
  · show PyData.depth (.tuple (kD d)) ≤ 8
    rw [PyData.depth]
    have := kD_deep1 d
    omega
theorem eqv_sets (a b : List (List Nat)) : PyData.eqv (.list (a.map setD)) (.list (b.map setD)) = decide (a = b) := by
  rw [PyData.eqv]
  exact eqvAll_map (f := setD) eqv_k a b
theorem dps_sets {K : PySem.W.Frag} {H : Hp} : ∀ {as : List Addr} {ds : List (List Nat)}, Sets H as ds → DpAll K H (as.map V.ref) (ds.map setD)
  | [], [], _ => .nil
  | a :: as, d :: ds, h => .cons (dp_set (All2.cons h).1) (dps_sets (All2.cons h).2)
  | [], _ :: _, h => by have := h.1; simp at this
  | _ :: _, [], h => by have := h.1; simp at this
theorem dp_sets {K : PySem.W.Frag} {H : Hp} {l : Addr} {ds : List (List Nat)} (h : SetL H l ds) : Dp K H (.ref l) (.list (ds.map setD)) := let ⟨as, a, b⟩ := h; .lst (SqL.of a) (dps_sets b)
theorem SetL.updL {H : Hp} {lf l : Addr} {xs : List V} {o : HO} {ds : List (List Nat)} (hf : H lf = some (.lst xs)) (n : l ≠ lf) (h : SetL H l ds) : SetL (upd H lf o) l ds :=
  let ⟨as, a, b⟩ := h
  ⟨as, by rw [upd_ne n]; exact a, b.upd hf⟩
theorem nxt_at {d : List Nat} (n : d ≠ []) : ∃ x, (kV d)[(kV d).length - 1]? = some (.int x) ∧ (nxt d : Int) = x + 1 := by
  cases e : d.getLast? with
  | none => exact absurd (List.getLast?_eq_none_iff.mp e) n
  | some x => exact ⟨_, ok_next.v_at e, by rw [nxt_last e]; rfl⟩
def spAllSets : Sp := fun vs H Q _ => ∃ m : Nat, vs = [.int m] ∧ m ≤ 12 ∧ ∀ l H', Same H H' → H l = none → SetL H' l (setsN m) → Q (.ref l) H'
section
variable {P : Program} {w : World} {K : PySem.W.Frag} {mg : Str → Option Value} {base : Heap} {f : Addr} {fd : FuncData}
abbrev nAllSets : List Str := ["_law_many", "_law_found", "_law_layer", "_law_turn", "_law_longer", "_law_done", "_law_least", "_law_number"]
theorem scAllSets : FnScope nAllSets ["_law_many"] (defScope sAllSets) := ⟨rfl, rfl, rfl, by decide +kernel, rfl, by decide +kernel, by decide +kernel⟩
theorem ok_allSets (G : Glob mg) (F : DefAt K "_law_all_sets" "_law_all_sets" sAllSets f fd) : FnOk P w K mg base CX0 1 f fd ["_law_many"] spAllSets := by
  refine okN F scAllSets (fun vs H Q E ⟨m, e, _⟩ => by rw [e]; rfl) (fun cdv A outer s H vs Q E hr ⟨m, e, m12, q⟩ => ?_)
  subst e
  have hu64 : (A.deeper (envOfC "_law_all_sets" (defScope sAllSets) s.heap.objs.size f cdv)).units + 64 < cLine := by have := hr.un; omega
  refine ⟨_, pss_cons (ps_par (i := 1) (j := 2) (by rfl) scAllSets.nd rfl rfl (by decide) rfl rfl (pa_cons (pe_lst pa_nil) (pa_cons (pe_lst (pa_cons (pe_tup pa_nil) pa_nil)) pa_nil)) (by rfl))
    (pss_cons (ps_for PassesOwn.never rfl (pi_range1 (by rfl) G.range (pa_cons (pe_op op_add (pv 0) pe_int) pa_nil)) (pg_name (i := 3) scAllSets.nd rfl (Or.inl rfl))
      (pss_cons (ps_expr (pe_bm PySem.F.plainAttrs_list PySem.F.slot_list_extend PySem.F.type_list_extend mt_extend (pv 1) (pa_cons (pv 2) pa_nil)))
      (pss_cons (ps_set (i := 4) scAllSets.nd rfl (Or.inl rfl) (pe_lst pa_nil))
      (pss_cons (ps_for PassesOwn.never rfl (pi_list (pe_callTy call_list_of (by rfl) G.lst (by decide +kernel) (pa_cons (pv 2) pa_nil))) (pg_name (i := 5) scAllSets.nd rfl (Or.inr rfl))
        (pss_cons (ps_set (i := 6) scAllSets.nd rfl (Or.inl rfl) (pe_ifExp (pt_cmpR (op_neD hu64) (pv 5) (pe_tup pa_nil) (nomark _)) (pe_op op_add (pe_ix ix_tup (pv 5) (pe_un un_neg pe_int) (fun _ _ => rfl)) pe_int) pe_int))
        (pss_one (ps_expr (pe_bm PySem.F.plainAttrs_list PySem.F.slot_list_extend PySem.F.type_list_extend mt_extend (pv 4) (pa_cons
          (pe_lc (own := [("_law_number", 7)]) (g := gName 7) (tt := tYes) rfl scAllSets.nd (pi_range2 (by rfl) G.range (pa_cons (pv 6) (pa_cons (pv 0) pa_nil))) (blkOk_by (N := nAllSets) (sc := defScope sAllSets) (by decide +kernel))
            (fun _ _ _ _ _ => pg_name (i := 7) scAllSets.nd rfl (Or.inl rfl)) (fun _ _ _ _ _ => pts_nil) (fun _ _ _ _ _ => pe_op (r := rCatA K) op_catA (pv 5) (pe_tup (pa_cons (pv 7) pa_nil)))) pa_nil))))))
      (pss_one (ps_set (i := 2) scAllSets.nd rfl (Or.inl rfl) (pv 4)))))))
    (pss_one (ps_ret (pv 1)))), ?_⟩
  have sz : sizeLine = 16777216 := sizeLine_eq
  refine ⟨(by show 0 ≤ sizeLine; omega), fun l0 nl0 => ?_⟩
  have s1 := upd_new (o := .lst []) nl0
  have h1 : upd H l0 (.lst []) l0 = some (.lst []) := upd_same
  generalize upd H l0 (.lst []) = H1 at s1 h1 ⊢
  refine ⟨(by show 0 ≤ sizeLine; omega), fun t0 nt0 => ⟨(by show 1 ≤ sizeLine; omega), fun l1 nl1 => ?_⟩⟩
  have s2 := upd_new (o := .tup []) nt0
  have h2 : upd H1 t0 (.tup []) t0 = some (.tup []) := upd_same
  generalize upd H1 t0 (.tup []) = H2 at s2 h2 nl1 ⊢
  have s3 := upd_new (o := .lst [V.ref t0]) nl1
  have h3 : upd H2 l1 (.lst [V.ref t0]) l1 = some (.lst [V.ref t0]) := upd_same
  generalize upd H2 l1 (.lst [V.ref t0]) = H3 at s3 h3 ⊢
  have s23 := s2.trans s3
  have hl0 := s23 _ _ h1
  have n01 : l0 ≠ l1 := ne_of_none (s2 _ _ h1) nl1
  refine ⟨_, _, rfl, _, rfl, _, _, rfl, rfl, (m : Int) + 1, rfl, by omega, by omega, ?_⟩
  refine for_range (lo := 0) (n := ((m : Int) + 1).toNat) (fun i σ H5 => ∃ (lf ll : Addr) (z3 z4 z5 z6 : Option V), σ = [some (.int m), some (.ref lf), some (.ref ll), z3, z4, z5, z6, none] ∧ Same H H5 ∧ H lf = none ∧ lf ≠ ll ∧ SetL H5 lf (upto m i) ∧ SetL H5 ll (layer m i))
    ⟨l0, l1, none, none, none, none, rfl, s1.trans s23, nl0, n01, ⟨[], hl0, All2.nil⟩, ⟨[t0], h3, All2.nil.snoc (s3 _ _ h2)⟩⟩ ?_ ?_
  · rintro i σ H5 hi ⟨lf, ll, z3, z4, z5, z6, rfl, s5, nlf, nfl, sf, sl⟩
    have him : i ≤ m := by omega
    have lenL : ((layer m i).flatMap (more m)).length ≤ 4096 := layer_len (t := i + 1) m12 (by omega)
    obtain ⟨fs, hf, fl⟩ := sf
    obtain ⟨as, hl, al⟩ := id sl
    have z := upto_len (m := m) (t := i + 1) m12 (by omega)
    rw [show upto m (i + 1) = upto m i ++ layer m i from rfl, List.length_append] at z
    refine ⟨_, rfl, .inl ⟨rfl, _, SqL.of hf⟩, _, rfl, lf, ll, _, _, rfl, rfl, hf, hl, (by rw [List.length_map, List.length_map, fl.1, al.1]; exact Nat.le_trans z (by omega)), ?_⟩
    have hl6 := (SetL.updL (o := .lst (fs.map V.ref ++ as.map V.ref)) hf (Ne.symm nfl) ⟨as, hl, al⟩)
    have sf6 : SetL (upd H5 lf (.lst (fs.map V.ref ++ as.map V.ref))) lf (upto m (i + 1)) := ⟨fs ++ as, by rw [upd_same, List.map_append], Sets.upd hf (All2.app fl al)⟩
    have s6 := same_upd (o := .lst (fs.map V.ref ++ as.map V.ref)) nlf s5
    generalize upd H5 lf (.lst (fs.map V.ref ++ as.map V.ref)) = H6 at hl6 sf6 s6 ⊢
    clear hl al fl hf sl fs as
    obtain ⟨as, hl, al⟩ := id hl6
    refine ⟨(by show 0 ≤ sizeLine; omega), fun lg nlg => ?_⟩
    have s7 := upd_new (o := .lst []) nlg
    have hg : upd H6 lg (.lst []) lg = some (.lst []) := upd_same
    generalize upd H6 lg (.lst []) = H7 at s7 hg ⊢
    refine ⟨_, rfl, ll, _, rfl, .inl (SqL.of (s7 _ _ hl)), fun lc nlc => ⟨lc, rfl, ⟨_, SqL.of upd_same⟩, ?_⟩⟩
    have s8 := upd_new (o := .lst (as.map V.ref)) nlc
    have hc : upd H7 lc (.lst (as.map V.ref)) lc = some (.lst (as.map V.ref)) := upd_same
    generalize upd H7 lc (.lst (as.map V.ref)) = H8 at s8 hc ⊢
    have ngf : lf ≠ lg := by
      obtain ⟨_, hf, _⟩ := sf6
      exact ne_of_none hf nlg
    have ngc : lg ≠ lc := ne_of_none hg nlc
    have s68 := s7.trans s8
    have al8 := al.same s68
    have sf8 := sf6.same s68
    refine for_list (xs := as.map V.ref) (fun j σ H9 => ∃ (z5 z6 : Option V) (bs : List Addr), σ = [some (.int m), some (.ref lf), some (.ref ll), some (.int (0 + (i : Int))), some (.ref lg), z5, z6, none] ∧ Keep lg H8 H9 ∧ H9 lg = some (.lst (bs.map V.ref)) ∧ Sets H9 bs (((layer m i).take j).flatMap (more m)))
      ⟨z5, z6, [], rfl, Keep.refl _ _, s8 _ _ hg, All2.nil⟩ (fun j σ H9 _ ⟨_, _, _, _, k9, _⟩ => SqL.of (k9 _ _ (Ne.symm ngc) hc)) ?_ ?_
    · rintro j x σ H9 ex ⟨z5, z6, bs, rfl, k9, hb, bl⟩
      obtain ⟨a, ea, rfl⟩ := map_at ex
      obtain ⟨d, ed, ha⟩ := al8.get ea
      have nag : a ≠ lg := ne_of ha (s8 _ _ hg) (fun z => nomatch z)
      have ha9 := k9 _ _ nag ha
      have dl : d.length = i := layer_deep (List.mem_of_getElem? ed)
      have step := flat_at (more m) ed
      have tot := flat_le (more m) (layer m i) (j + 1)
      have nb := layer_nxt (List.mem_of_getElem? ed)
      dsimp only [gName]
      refine seq_any (R := fun v H' => v = .int (nxt d : Nat) ∧ Same H9 H') (fun Q2 kq => ?_) ?_
      · refine ⟨_, rfl, (by show 0 ≤ sizeLine; omega), fun p np => ⟨setD d, setD [], .tup (SqT.of (upd_new np _ _ ha9)) (dps_k d), .tup (SqT.of upd_same) .nil, (sh_k d).1, (sh_k []).1, !decide (d = []), by rw [show PyData.eqv (setD d) (setD []) = _ from eqv_k d []], ?_⟩⟩
        have s10 := upd_new (o := .tup []) np
        by_cases e0 : d = []
        · rw [decide_eq_true e0]
          refine iteF (kq _ _ ⟨by rw [e0]; rfl, s10⟩)
        · rw [decide_eq_false e0]
          obtain ⟨y, ey, en⟩ := nxt_at e0
          have d0 : 0 < (kV d).length := by rw [kV_len]; exact List.length_pos_iff.mpr e0
          exact iteT ⟨_, rfl, 1, rfl, a, kV d, _, _, rfl, rfl, SqT.of (s10 _ _ ha9), at_last d0 ey, _, _, rfl, rfl, kq _ _ ⟨by rw [en], s10⟩⟩
      rintro _ H10 ⟨rfl, s10⟩
      have hb10 := s10 _ _ hb
      have ha10 := s10 _ _ ha9
      refine ⟨_, rfl, .inl ⟨rfl, _, SqL.of hb10⟩, _, rfl, _, rfl, (nxt d : Int), (m : Int), rfl, ⟨by omega, by omega, by omega, by omega⟩, fun D hD => ?_⟩
      refine lc_range (lo := (nxt d : Int)) (n := ((m : Int) - (nxt d : Int)).toNat) (fun k H11 => Same H10 H11 ∧ ∃ cs, H11 D = some (.lst (cs.map V.ref)) ∧ Sets H11 cs ((more m d).take k)) ⟨upd_new hD, [], upd_same, .nil⟩ ?_ ?_
      · rintro k H11 hk ⟨s11, cs, hcs, cl⟩
        have hk2 : k < m - nxt d := by omega
        have ha11 := s11 _ _ ha10
        have em := more_at hk2
        have key : ∀ p H12, Same H11 H12 → H12 p = some (.tup (kV (d ++ [nxt d + k]))) → ∃ acc, H12 D = some (.lst acc) ∧ acc.length < sizeLine ∧ (Same H10 (upd H12 D (.lst (acc ++ [V.ref p]))) ∧ ∃ cs, upd H12 D (.lst (acc ++ [V.ref p])) D = some (.lst (cs.map V.ref)) ∧ Sets (upd H12 D (.lst (acc ++ [V.ref p]))) cs ((more m d).take (k + 1))) := fun p H12 s12 hp => by
          refine ⟨_, s12 _ _ hcs, ?_, same_upd hD (s11.trans s12), cs ++ [p], by rw [upd_same, List.map_append]; rfl, ?_⟩
          · rw [List.length_map, cl.1, List.length_take]
            rw [more_len]
            omega
          · rw [take_more em]
            exact Sets.upd (s12 _ _ hcs) ((cl.same s12).snoc hp)
        refine ⟨rfl, yes_of ⟨_, rfl, _, rfl, (by show 1 ≤ sizeLine; omega), fun p np => ?_⟩⟩
        have s12 := upd_new (o := .tup [V.int ((nxt d : Int) + (k : Int))]) np
        have hp : upd H11 p (.tup [V.int ((nxt d : Int) + (k : Int))]) p = some (.tup [V.int ((nxt d + k : Nat) : Int)]) := by rw [upd_same]; rfl
        generalize upd H11 p (.tup [V.int ((nxt d : Int) + (k : Int))]) = H12 at s12 hp ⊢
        refine ⟨a, p, kV d, _, rfl, rfl, SqT.of (s12 _ _ ha11), SqT.of hp, (by rw [kV_len]; simp; omega), fun e0 => ?_, fun _ e => absurd e (List.cons_ne_nil _ _), fun _ _ p2 np2 => ?_⟩
        · have d0 : d = [] := by
            unfold kV at e0
            simpa using e0
          exact key p H12 s12 (by rw [hp, ← kV_app, e0, List.nil_append])
        · exact key p2 _ (s12.trans (upd_new np2)) (by rw [upd_same, kV_app])
      · rintro H11 ⟨s11, cs, hcs, cl⟩
        rw [show ((m : Int) - (nxt d : Int)).toNat = (more m d).length by rw [more_len]; omega, List.take_length] at cl
        have hb11 := s11 _ _ hb10
        have nDg : D ≠ lg := Ne.symm (ne_of_none hb10 hD)
        rw [step, List.length_append] at tot
        refine ⟨lg, D, _, _, rfl, rfl, hb11, hcs, (by rw [List.length_map, List.length_map, bl.1, cl.1]; omega), ?_⟩
        refine ⟨_, _, bs ++ cs, rfl, fun b o nb e => ?_, by rw [upd_same, List.map_append], ?_⟩
        · rw [upd_ne nb]
          exact s11 _ _ (s10 _ _ (k9 _ _ nb e))
        · rw [step]
          exact Sets.upd hb11 (((bl.same s10).same s11).app cl)
    · rintro σ H9 ⟨z5, z6, bs, rfl, k9, hb, bl⟩
      rw [List.length_map, al.1, List.take_length] at bl
      obtain ⟨fs, hf, fl⟩ := sf8
      have fl9 : Sets H9 fs (upto m (i + 1)) := fl.mono fun x y z => k9 _ _ (ne_of z (s8 _ _ hg) (fun z => nomatch z)) z
      refine ⟨_, rfl, lf, lg, _, _, _, _, rfl, fun b o e => k9 _ _ (ne_of_none (s6 _ _ e) nlg) (s68 _ _ (s6 _ _ e)), nlf, ngf, ⟨fs, k9 _ _ ngf hf, fl9⟩, ⟨bs, hb, bl⟩⟩
  · rintro σ H5 ⟨lf, ll, z3, z4, z5, z6, rfl, s5, nlf, nfl, sf, sl⟩
    exact ⟨_, rfl, q lf H5 s5 nlf sf⟩
end
end K5

/-! k04: is_name of any value; check_stranger. -/
namespace K5
open PySem PySem.Spec PyProof.Rows L2 LamX K1 K18 K4

/-- ends that do not matter -/
def dD : Ends := { nx := fun _ _ => False, rt := fun _ _ => False }
def NotStr (K : PySem.W.Frag) (H : Hp) (v : V) : Prop := ∃ t, TyOf K H v t ∧ PySem.W.kitOne K t (.type "str") = some false
theorem NotStr.same {K : PySem.W.Frag} {H H' : Hp} {v : V} (s : Same H H') (h : NotStr K H v) : NotStr K H' v := let ⟨t, a, b⟩ := h; ⟨t, TyOf.keep s a, b⟩
theorem NotStr.of {K : PySem.W.Frag} {H : Hp} {v : V} {T : String} (ty : TyOf K H v (.type T)) (m : T ∈ ["NoneType", "int", "bool", "list"]) : NotStr K H v := by
  refine ⟨_, ty, ?_⟩
  simp only [List.mem_cons, List.not_mem_nil, or_false] at m
  rcases m with rfl | rfl | rfl | rfl <;> exact kit_ty (by decide +kernel)
/-- what is_name gives -/
def spNameA (K : PySem.W.Frag) : Sp := fun vs H Q _ => ∃ v, vs = [v] ∧ ((NotStr K H v ∧ ∀ H', Same H H' → Q (.bl false) H') ∨ ∃ x, v = .str x ∧ x.length ≤ 1000 ∧ ∀ b H', (Nm x → b = true) → Same H H' → Q (.bl b) H')
/-- no name of a stranger -/
def Strange (K : PySem.W.Frag) (H : Hp) (ns : List Str) (v : V) : Prop := NotStr K H v ∨ ∃ x, v = .str x ∧ x.length ≤ 1000 ∧ x ∉ ns
theorem Strange.same {K : PySem.W.Frag} {H H' : Hp} {ns : List Str} {v : V} (s : Same H H') (h : Strange K H ns v) : Strange K H' ns v := h.imp (fun z => z.same s) id
/-- a stranger's name, or none -/
def StrW (K : PySem.W.Frag) (CN : Addr) (ns : List Str) (v : V) (H : Hp) (E : XK) (k : Str → Prop) : Prop := (∃ n, v = .str n ∧ Nm n ∧ n ∈ ns ∧ k n) ∨ (Strange K H ns v ∧ ∀ d H', ToldF H H' d [("name", v)] → E (.ref CN) (some d) H')
def spStranger (K : PySem.W.Frag) (C CH CS CN : Addr) : Sp := fun vs H Q E => ∃ a v ns hs, vs = [.ref a, v] ∧ SwAt C CH CS H a ns hs ∧ StrW K CN ns v H E fun _ => ∀ H', Same H H' → Q .non H'
section
variable {P : Program} {w : World} {K : PySem.W.Frag} {mg : Str → Option Value} {base : Heap} {f C CH CS CN : Addr} {fd : FuncData}
theorem ok_nameA (G : Glob mg) (CO : Consts mg) (F : DefAt K "is_name" "is_name" sName f fd) : FnOk P w K mg base CX0 1 f fd ["value"] (spNameA K) := by
  obtain ⟨ud, gd, rd⟩ := CO.dig
  obtain ⟨ul, gl, rl⟩ := CO.let_
  obtain ⟨u6, g6, r6⟩ := CO.s12
  refine okN F scName (fun vs H Q E ⟨v, e, _⟩ => by rw [e]; rfl) (fun cdv A outer s H vs Q E hr ⟨v, e, h⟩ => ?_)
  subst e
  refine ⟨_, pss_cons (ps_if (PW.pt (pw_or (pt_not (pt_val (pe_callB call_isi (by rfl) G.isi (by decide +kernel) (pa_cons (pv 0) (pa_cons (pe_bltn (by rfl) G.str (by decide +kernel) (v := .ty "str") rfl) pa_nil)))))
      (pw_or1 (pt_not (pt_chain op_le op_le pe_int (pe_callB call_len_str (by rfl) G.len PySem.boot_len (pa_cons (pv 0) pa_nil)) (pe_glob (v := .int 12) rfl g6 r6)))))) (pss_one (ps_ret pe_bl)) pss_nil)
    (pss_one (ps_ret (pe_and (pe_cmpR op_in_sign (pe_ix ix_str (pv 0) pe_int (fun _ _ => rfl)) (pe_glob (v := .str (Str.ofString "abcdefghijklmnopqrstuvwxyz")) rfl gl rl) rfl)
      (pe_one (pe_callB (cr_all rfl) (by rfl) G.all (by decide +kernel) (pa_cons
          (pe_lc (own := [("sign", 1)]) (g := gName 1) (tt := tYes) rfl scName.nd (pi_str (pv 0)) (blkOk_by (N := ["value", "sign"]) (sc := defScope sName) (by decide +kernel))
            (fun _ _ _ _ _ => pg_name (i := 1) scName.nd rfl (Or.inl rfl)) (fun _ _ _ _ _ => pts_nil) (fun _ _ _ _ _ => pe_or (pe_cmpR op_in_sign (pv 1) (pe_glob (v := .str (Str.ofString "abcdefghijklmnopqrstuvwxyz")) rfl gl rl) rfl) (pe_one (pe_cmpR op_in_sign (pv 1) (pe_glob (v := .str (Str.ofString "0123456789")) rfl gd rd) rfl)))) pa_nil)))))), ?_⟩
  have sz : sizeLine = 16777216 := sizeLine_eq
  rcases h with ⟨⟨t, ty, k1⟩, q⟩ | ⟨x, rfl, lx, q⟩
  · exact ⟨_, rfl, _, _, _, _, _, rfl, .ty "str", .base ty, k1, false, rfl, iteT (q H (Same.refl H))⟩
  refine ⟨_, rfl, _, _, _, _, _, rfl, .ty "str", .base (.str x), kit_ty (a := "str") (b := "str") (r := true) (by decide +kernel), true, rfl, iteF ?_⟩
  refine ⟨_, rfl, _, rfl, (by omega), _, _, rfl, rfl, decide ((1 : Int) ≤ (x.length : Int)), rfl, ?_⟩
  rcases Nat.lt_or_ge x.length 1 with l1 | l1
  · rw [decide_eq_false (show ¬ (1 : Int) ≤ (x.length : Int) by omega)]
    exact iteF ⟨false, rfl, iteT (q false H (fun n => absurd n.l1 (by omega)) (Same.refl H))⟩
  rw [decide_eq_true (show (1 : Int) ≤ (x.length : Int) by omega)]
  refine iteT ⟨_, _, rfl, rfl, decide ((x.length : Int) ≤ 12), rfl, ?_⟩
  rcases Nat.lt_or_ge 12 x.length with l2 | l2
  · rw [decide_eq_false (show ¬ (x.length : Int) ≤ 12 by omega)]
    exact iteT (q false H (fun n => absurd n.l2 (by omega)) (Same.refl H))
  rw [decide_eq_true (show (x.length : Int) ≤ 12 by omega)]
  refine iteF ?_
  obtain ⟨c, hc⟩ : ∃ c, x.cps.toList[0]? = some c := ⟨_, List.getElem?_eq_getElem (by rw [Array.length_toList]; exact l1)⟩
  refine ⟨_, rfl, _, 0, c, rfl, rfl, (by omega), atI_nat (j := 0) hc, c, _, rfl, rfl, isL c, congrArg V.bl (in_let c), ?_⟩
  cases lc : isL c with
  | false =>
    refine iteF (q false H (fun n => ?_) (Same.refl H))
    obtain ⟨c', hc', lc'⟩ := n.hd
    rw [hc] at hc'
    cases hc'
    rw [lc] at lc'
    cases lc'
  | true =>
    refine iteT ⟨_, rfl, _, rfl, fun D hD => ?_⟩
    refine lc_it walk_str (fun i H2 => Same H H2 ∧ H2 D = some (.lst (((x.cps.toList.take i).map fun d => isL d || isD d).map V.bl))) ⟨upd_new hD, upd_same⟩ (fun _ _ _ _ => trivial) ?_ ?_
    · rintro i y H2 H3 hi ⟨s2, h2⟩ ⟨rfl, d, hd, rfl⟩
      have ed : x.cps.toList[i]? = some d := by simpa using hd
      have li : i < x.length := hi
      have fin : ∀ b, b = (isL d || isD d) → ∃ acc, H3 D = some (.lst acc) ∧ acc.length < sizeLine ∧ (Same H (upd H3 D (.lst (acc ++ [V.bl b]))) ∧ upd H3 D (.lst (acc ++ [V.bl b])) D = some (.lst (((x.cps.toList.take (i + 1)).map fun d => isL d || isD d).map V.bl))) := fun b eb =>
        ⟨_, h2, by rw [List.length_map, List.length_map, List.length_take]; omega, same_upd hD s2, by rw [upd_same, take_more ed, eb]; simp⟩
      refine ⟨rfl, yes_of ⟨_, rfl, d, _, rfl, rfl, isL d, congrArg V.bl (in_let d), ?_⟩⟩
      cases e : isL d with
      | true => exact iteT (fin true (by rw [e]; rfl))
      | false =>
        refine iteF ⟨_, rfl, d, _, rfl, rfl, ?_⟩
        rw [in_dig]
        exact fin _ (by rw [e]; rfl)
    · rintro H2 ⟨s2, h2⟩
      refine ⟨D, _, rfl, SqL.of h2, q _ H2 (fun n => ?_) s2⟩
      refine List.all_eq_true.mpr fun b hb => ?_
      obtain ⟨d, md, rfl⟩ := List.mem_map.mp hb
      have z := n.al d (List.mem_of_mem_take md)
      rcases z with z | z <;> simp [z]
abbrev HasNameA (P : Program) (w : World) (K : PySem.W.Frag) (mg : Str → Option Value) (base : Heap) : Prop := Has P w K mg base CX0 1 "is_name" ["value"] (spNameA K)
theorem scStr : FnScope ["swap", "name"] ["swap", "name"] (defScope sStranger) := ⟨rfl, rfl, rfl, by decide +kernel, rfl, by decide +kernel, by decide +kernel⟩
theorem ok_stranger (R : SwapF K CS) (HN : HasNameA P w K mg base) (B : ErrR P w K mg base CN "NoStranger" ["name"]) (F : DefAt K "check_stranger" "check_stranger" sStranger f fd) : FnOk P w K mg base (L2.CX P w) 3 f fd ["swap", "name"] (spStranger K C CH CS CN) := by
  obtain ⟨fn, fdn, mN, kN, bN, GN⟩ := HN.h
  refine okX F scStr (fun vs H Q E ⟨a, v, ns, hs, e, _⟩ => by rw [e]; rfl) (fun cdv A outer s H vs Q E hr ⟨a, v, ns, hs, e, ha, h⟩ => ?_)
  subst e
  have tk : Takes (cxOf (L2.CX P w) P w K mg base ["swap", "name"] "check_stranger" (defScope sStranger) f cdv A outer s H E) (fun cls d _ H' => E cls d H') := takes_of rfl rfl rfl rfl
  refine ⟨_, pss_one (ps_if (PW.pt (pw_or (pt_not (pt_val (pe_call GN (hr.mono (by decide)) rfl mN kN bN .nil pass0 (pa_cons (pv 1) pa_nil)))) (pw_or1 (pt_cmpR op_notIn_seq (pv 1) (pe_fld (pv 0) rfl) (by rfl)))))
      (pss_one (ps_rs B rfl tk (hr.mono (by decide)) (pa_cons (pv 1) pa_nil))) pss_nil), ?_⟩
  obtain ⟨dx, pp, ph, pn, as, nas, h1, h2, h3, h4, h5, h6⟩ := ha
  rcases h with ⟨n, rfl, nm, mem, q⟩ | ⟨bad, q⟩
  · refine ⟨_, rfl, _, rfl, .inr ⟨n, rfl, by have := nm.l2; omega, fun b H1 hb s1 => ⟨b, rfl, ?_⟩⟩⟩
    rw [hb nm]
    refine iteF ⟨_, rfl, _, rfl, a, CS, dx, _, _, rfl, s1 _ _ h1, R.cl, R.nS, fs_s _ _ _, pp, _, rfl, .inr (h2.same s1).sq, rfl, flat_S ns, false, ?_, iteF (q H1 s1)⟩
    rw [inV_S, decide_eq_true mem]
    rfl
  rcases bad with ns1 | ⟨x, rfl, lx, nx⟩
  · refine ⟨_, rfl, v, rfl, .inl ⟨ns1, fun H1 s1 => ⟨false, rfl, iteT ?_⟩⟩⟩
    exact rs_v (D := dD) rfl fun d H' t => q d H' (t.from s1)
  · refine ⟨_, rfl, _, rfl, .inr ⟨x, rfl, lx, fun b H1 hb s1 => ⟨b, rfl, ?_⟩⟩⟩
    cases b with
    | false =>
      refine iteT ?_
      exact rs_v (D := dD) rfl fun d H' t => q d H' (t.from s1)
    | true =>
      refine iteF ⟨_, rfl, _, rfl, a, CS, dx, _, _, rfl, s1 _ _ h1, R.cl, R.nS, fs_s _ _ _, pp, _, rfl, .inr (h2.same s1).sq, rfl, flat_S ns, true, ?_, iteT ?_⟩
      · rw [inV_S, decide_eq_false nx]
        rfl
      · exact rs_v (D := dD) rfl fun d H' t => q d H' (t.from s1)
end
end K5

/-! k04: rest, sums, sum_of, gave, took; also where they raise. -/
namespace K5
open PySem PySem.Spec PyProof.Rows L2 LamX K1 K18 K4

theorem flat_K (ks : List Nat) : (kV ks).all flatV = true := by unfold kV; rw [List.all_map]; exact List.all_eq_true.mpr fun _ _ => rfl
theorem inV_K (n : Nat) (ks : List Nat) : inV (.int n) (kV ks) = decide (n ∈ ks) := by
  unfold inV kV
  induction ks with
  | nil => simp
  | cons a r ih =>
    rw [List.map_cons, List.any_cons, ih]
    have e : eqV (.int (a : Nat)) (.int n) = decide (a = n) := by
      show ((a : Int) == (n : Int)) = _
      by_cases h : a = n
      · subst h; simp
      · have : ¬ ((a : Int) = n) := by omega
        simp [h, this]
    rw [e, Bool.eq_iff_iff, Bool.or_eq_true, decide_eq_true_iff, decide_eq_true_iff, decide_eq_true_iff, List.mem_cons]
    exact or_congr eq_comm Iff.rfl
/-- numbers told in any order: those -/
structure GoodK (js : List Int) (m : Nat) (ks : List Nat) : Prop where
  pm : js.Perm (nI ks)
  asc : ks.Pairwise (· < ·)
  lt : ∀ k ∈ ks, k < m
/-- a swap and a done set, as they are told; cont: what is wanted if they are right -/
def SwDone (K : PySem.W.Frag) (C CH CS CW CD CI CT : Addr) (u v : V) (H : Hp) (E : XK) (cont : Addr → List Str → List Hnd → List Nat → Prop) : Prop :=
  (NotSw K CS H u ∧ ∀ d H', ToldF H H' d [("part", .str "swap")] → E (.ref CW) (some d) H') ∨
  ∃ a ns hs, u = .ref a ∧ SwAt C CH CS H a ns hs ∧ (∀ h ∈ hs, HnOk h) ∧ hs.length ≤ 50 ∧ ns.length ≤ 6 ∧ HandsW K CD CI CT (hs.length : Nat) v (.str "done") H E fun js b => ∃ ks, GoodK js hs.length ks ∧ cont a ns hs ks
theorem ds_in {K : PySem.W.Frag} {C CH CS CW CD CI CT : Addr} {u v : V} {H : Hp} {E : XK} {R : Addr → Hp → Prop} {cont : Addr → List Str → List Hnd → List Nat → Prop} (h : SwDone K C CH CS CW CD CI CT u v H E cont)
    (k : ∀ a ns hs ks t H', u = .ref a → SwAt C CH CS H a ns hs → (∀ h ∈ hs, HnOk h) → hs.length ≤ 50 → ns.length ≤ 6 → ks.Pairwise (· < ·) → (∀ k ∈ ks, k < hs.length) → cont a ns hs ks → Same H H' → H' t = some (.tup (kV ks)) → R t H') :
    (NotSw K CS H u ∧ ∀ d H', ToldF H H' d [("part", .str "swap")] → E (.ref CW) (some d) H') ∨
      ∃ a ns hs, u = .ref a ∧ SwAt C CH CS H a ns hs ∧ hs.length ≤ 1000 ∧ HandsW K CD CI CT (hs.length : Nat) v (.str "done") H E fun ms b => ∀ (ks : List Int) (t : Addr) (H' : Hp), ks.Perm ms → ks.Pairwise (· ≤ ·) → Same H H' → H' t = some (.tup (ks.map V.int)) → R t H' := by
  rcases h with h | ⟨a, ns, hs, rfl, ha, ok, l50, n6, hw⟩
  · exact .inl h
  refine .inr ⟨a, ns, hs, rfl, ha, by omega, ?_⟩
  rcases hw with hw | ⟨b, js, rfl, sq, lj, qH, qT, qK⟩
  · exact .inl hw
  refine .inr ⟨b, js, rfl, sq, lj, qH, qT, fun al nd is t H1 pj sj s1 ht => ?_⟩
  obtain ⟨ks, g, c⟩ := qK al nd
  obtain rfl := sorted_is (pj.trans g.pm) sj g.asc
  rw [← kV_eq] at ht
  exact k a ns hs ks t H1 rfl ha ok l50 n6 g.asc g.lt c s1 ht
def others (m : Nat) (ks : List Nat) : List Nat := (List.range m).filter fun n => !decide (n ∈ ks)
/-- what one gave, took -/
def gaveF (hs : List Hnd) (ks : List Nat) (n : Str) : Int := (((ks.filterMap fun k => hs[k]?).filter fun h => decide (h.g = n)).map Hnd.c).sum
def tookF (hs : List Hnd) (ks : List Nat) (n : Str) : Int := (((ks.filterMap fun k => hs[k]?).filter fun h => decide (h.t = n)).map Hnd.d).sum
def spRest (K : PySem.W.Frag) (C CH CS CW CD CI CT : Addr) : Sp := fun vs H Q E => ∃ u v, vs = [u, v] ∧ SwDone K C CH CS CW CD CI CT u v H E fun a ns hs ks => ∀ p H', Same H H' → H' p = some (.tup (kV (others hs.length ks))) → Q (.ref p) H'
def spSumsX (K : PySem.W.Frag) (C CH CS CW CD CI CT : Addr) : Sp := fun vs H Q E => ∃ u v, vs = [u, v] ∧ SwDone K C CH CS CW CD CI CT u v H E fun a ns hs ks => ∀ p qs H', Same H H' → H' p = some (.tup (qs.map V.ref)) → All2 (Six C H') qs (ns.map (effs hs ks)) → Q (.ref p) H'
def spOf (K : PySem.W.Frag) (C CH CS CW CD CI CT CN : Addr) (F : List Hnd → List Nat → Str → Int) : Sp := fun vs H Q E => ∃ u v x, vs = [u, v, x] ∧ SwDone K C CH CS CW CD CI CT u v H E fun a ns hs ks => StrW K CN ns x H E fun n => ∀ p H', Same H H' → Six C H' p (F hs ks n) → Q (.ref p) H'
theorem StrW.goM {K : PySem.W.Frag} {CN : Addr} {ns : List Str} {v : V} {H H' : Hp} {E : XK} {k k' : Str → Prop} (s : Same H H') (h : StrW K CN ns v H E k) (f : ∀ n, v = .str n → n ∈ ns → k n → k' n) : StrW K CN ns v H' E k' :=
  h.imp (fun ⟨n, a, b, c, d⟩ => ⟨n, a, b, c, f n a c d⟩) fun ⟨a, b⟩ => ⟨a.same s, fun d H2 t => b d H2 (t.from s)⟩
theorem StrW.go {K : PySem.W.Frag} {CN : Addr} {ns : List Str} {v : V} {H H' : Hp} {E : XK} {k k' : Str → Prop} (s : Same H H') (h : StrW K CN ns v H E k) (f : ∀ n, v = .str n → k n → k' n) : StrW K CN ns v H' E k' :=
  h.imp (fun ⟨n, a, b, c, d⟩ => ⟨n, a, b, c, f n a d⟩) fun ⟨a, b⟩ => ⟨a.same s, fun d H2 t => b d H2 (t.from s)⟩
section
variable {P : Program} {w : World} {K : PySem.W.Frag} {mg : Str → Option Value} {base : Heap} {f C CH CS CW CD CI CT CU CM CN : Addr} {fd : FuncData}
abbrev HasStranger (P : Program) (w : World) (K : PySem.W.Frag) (mg : Str → Option Value) (base : Heap) (C CH CS CN : Addr) : Prop := Has P w K mg base (L2.CX P w) 3 "check_stranger" ["swap", "name"] (spStranger K C CH CS CN)
abbrev nRest : List Str := ["swap", "done", "told", "number"]
theorem scRest : FnScope nRest ["swap", "done"] (defScope sRest) := ⟨rfl, rfl, rfl, by decide +kernel, rfl, by decide +kernel, by decide +kernel⟩
theorem ok_rest (G : Glob mg) (HD : HasDoneSet P w K mg base C CH CS CW CD CI CT) (OL : LenO P w K mg base C CH CS) (F : DefAt K "rest" "rest" sRest f fd) : FnOk P w K mg base (L2.CX P w) 8 f fd ["swap", "done"] (spRest K C CH CS CW CD CI CT) := by
  obtain ⟨fd_, fdd, mD, kD_, bD, GD⟩ := HD.h
  obtain ⟨fl, fdl, ML, bL, GL⟩ := OL.o.h
  refine okX F scRest (fun vs H Q E ⟨u, v, e, _⟩ => by rw [e]; rfl) (fun cdv A outer s H vs Q E hr ⟨u, v, e, h⟩ => ?_)
  subst e
  have tk : Takes (cxOf (L2.CX P w) P w K mg base nRest "rest" (defScope sRest) f cdv A outer s H E) (fun cls d _ H' => E cls d H') := takes_of rfl rfl rfl rfl
  have ps := passes_call tk (E := E) fun _ _ _ _ z => z
  refine ⟨_, pss_cons (ps_set (i := 2) scRest.nd rfl (Or.inr rfl) (pe_call GD hr rfl mD kD_ bD .nil ps (pa_cons (pv 0) (pa_cons (pv 1) pa_nil))))
    (pss_one (ps_ret (pe_callTy (r := rTupK K) (call_tupK rfl) (by rfl) G.tup (by decide +kernel) (pa_cons
      (pe_lc (own := [("number", 3)]) (g := gName 3) rfl scRest.nd (pi_range1 (by rfl) G.range (pa_cons (pe_callB (call_lenO ML GL (hr.mono (by decide)) bL pass0) (by rfl) G.len PySem.boot_len (pa_cons (pv 0) pa_nil)) pa_nil)) (blkOk_by (N := nRest) (sc := defScope sRest) (by decide +kernel))
        (fun _ _ _ _ _ => pg_name (i := 3) scRest.nd rfl (Or.inl rfl)) (fun _ _ _ _ _ => pts_one (pt_cmpR (r := rIn K true) op_notIn_seq (pv 3) (pv 2) (by rfl))) (fun _ _ _ _ _ => pv 3)) pa_nil)))), ?_⟩
  have sz : sizeLine = 16777216 := sizeLine_eq
  refine ⟨_, rfl, _, rfl, u, v, rfl, ds_in h fun a ns hs ks t H1 eu ha ok l50 n6 asc lt q s1 ht => ?_⟩
  subst eu
  have ha1 := ha.same s1
  obtain ⟨dx, pp, ph, pn, as, nas, h1, h2, h3, h4, h5, h6⟩ := id ha1
  refine ⟨_, rfl, a, dx, _, rfl, h1, a, ns, hs, rfl, ha1, _, rfl, by omega, by omega, _, rfl, by omega, by omega, fun D hD => ?_⟩
  refine lc_range (lo := 0) (n := ((hs.length : Nat) : Int).toNat) (fun i H2 => Same H1 H2 ∧ H2 D = some (.lst (kV ((List.range i).filter fun n => !decide (n ∈ ks))))) ⟨upd_new hD, upd_same⟩ ?_ ?_
  · rintro i H2 hi ⟨s2, hd⟩
    have z0 : (0 : Int) + (i : Nat) = (i : Nat) := by omega
    have len : (kV ((List.range i).filter fun n => !decide (n ∈ ks))).length < sizeLine := by
      rw [kV_len]
      have := List.length_filter_le (fun n => !decide (n ∈ ks)) (List.range i)
      rw [List.length_range] at this
      have : i < hs.length := by omega
      omega
    refine ⟨rfl, _, rfl, _, rfl, t, _, rfl, .inr (SqT.of (s2 _ _ ht)), rfl, flat_K ks, !decide (i ∈ ks), ?_, ?_⟩
    · show V.bl (!inV (.int ((0 : Int) + (i : Nat))) (kV ks)) = _
      rw [z0, inV_K]
    · have step : (List.range (i + 1)).filter (fun n => !decide (n ∈ ks)) = (List.range i).filter (fun n => !decide (n ∈ ks)) ++ if (!decide (i ∈ ks)) = true then [i] else [] := by
        rw [List.range_succ, List.filter_append, List.filter_cons, List.filter_nil]
      cases c : (!decide (i ∈ ks)) with
      | false =>
        rw [c] at step
        refine iteF ⟨s2, ?_⟩
        rw [step]
        simpa using hd
      | true =>
        rw [c] at step
        refine iteT ⟨_, rfl, _, hd, len, same_upd hD s2, ?_⟩
        rw [upd_same, step, z0, kV_app]
        simp
  · rintro H2 ⟨s2, hd⟩
    refine ⟨D, _, rfl, .inl ⟨SqL.of hd, fun p np => q p _ ((s1.trans s2).trans (upd_new np)) ?_⟩⟩
    rw [upd_same]
    rfl
abbrev nSums : List Str := ["swap", "done", "told", "name"]
theorem scSums : FnScope nSums ["swap", "done"] (defScope sSums) := ⟨rfl, rfl, rfl, by decide +kernel, rfl, by decide +kernel, by decide +kernel⟩
theorem ok_sumsX (G : Glob mg) (R : SwapF K CS) (HD : HasDoneSet P w K mg base C CH CS CW CD CI CT) (HE : HasEffects P w K mg base C CH CS) (F : DefAt K "sums" "sums" sSums f fd) : FnOk P w K mg base (L2.CX P w) 8 f fd ["swap", "done"] (spSumsX K C CH CS CW CD CI CT) := by
  obtain ⟨fd_, fdd, mD, kD_, bD, GD⟩ := HD.h
  obtain ⟨fe, fde, mE, kE, bE, GE⟩ := HE.h
  refine okX F scSums (fun vs H Q E ⟨u, v, e, _⟩ => by rw [e]; rfl) (fun cdv A outer s H vs Q E hr ⟨u, v, e, h⟩ => ?_)
  subst e
  have tk : Takes (cxOf (L2.CX P w) P w K mg base nSums "sums" (defScope sSums) f cdv A outer s H E) (fun cls d _ H' => E cls d H') := takes_of rfl rfl rfl rfl
  have ps := passes_call tk (E := E) fun _ _ _ _ z => z
  refine ⟨_, pss_cons (ps_set (i := 2) scSums.nd rfl (Or.inr rfl) (pe_call GD hr rfl mD kD_ bD .nil ps (pa_cons (pv 0) (pa_cons (pv 1) pa_nil))))
    (pss_one (ps_ret (pe_callTy (r := rTupK K) (call_tupK rfl) (by rfl) G.tup (by decide +kernel) (pa_cons
      (pe_lc (own := [("name", 3)]) (g := gName 3) (tt := tYes) rfl scSums.nd (pi_tup (pe_fld (pv 0) rfl)) (blkOk_by (N := nSums) (sc := defScope sSums) (by decide +kernel))
        (fun _ _ _ _ _ => pg_name (i := 3) scSums.nd rfl (Or.inl rfl)) (fun _ _ _ _ _ => pts_nil) (fun _ _ _ _ _ => pe_call (E := E0) GE hr rfl mE kE bE .nil pass0 (pa_cons (pv 0) (pa_cons (pv 2) (pa_cons (pv 3) pa_nil))))) pa_nil)))), ?_⟩
  have sz : sizeLine = 16777216 := sizeLine_eq
  refine ⟨_, rfl, _, rfl, u, v, rfl, ds_in h fun a ns hs ks t H1 eu ha ok l50 n6 asc lt q s1 ht => ?_⟩
  subst eu
  have lk := nd_len (asc_nd asc) lt
  have sw1 := ha.same s1
  obtain ⟨dx, pp, ph, pn, as, nas, h1, h2, h3, h4, h5, h6⟩ := id sw1
  refine ⟨_, rfl, a, CS, dx, _, _, rfl, h1, R.cl, R.nS, fs_s _ _ _, pp, rfl, ⟨_, h2.sq⟩, fun D hD => ?_⟩
  refine lc_tup (K := K) (a := pp) (xs := ns.map V.str) (fun i H2 => Same H1 H2 ∧ SixL C H2 D ((ns.take i).map (effs hs ks))) ⟨upd_new hD, [], upd_same, .nil⟩ (fun i H2 _ z => (h2.same z.1).sq) ?_ ?_
  · rintro i x H2 hx ⟨s2, sl2⟩
    obtain ⟨n, en, rfl⟩ := map_at hx
    have li := (List.getElem?_eq_some_iff.mp en).1
    refine ⟨rfl, yes_of ⟨_, rfl, _, rfl, _, rfl, a, t, ns, hs, n, ks, rfl, sw1.same s2, ok, .inr (s2 _ _ ht), lt, by omega, fun p H3 s3 np hp => ?_⟩⟩
    obtain ⟨qs, hd, al⟩ := sl2.same s3
    refine ⟨_, hd, ?_, same_upd hD (s2.trans s3), qs ++ [p], by rw [upd_same, List.map_append]; rfl, ?_⟩
    · rw [List.length_map, al.1, List.length_map, List.length_take]; omega
    · rw [take_more en, List.map_append]
      exact All2.snoc (al.mono fun u v z => six_upd hd z) (six_upd hd hp)
  · rintro H2 ⟨s2, qs, hd, al⟩
    rw [List.length_map, List.take_length] at al
    refine ⟨D, _, rfl, .inl ⟨SqL.of hd, fun p np => ?_⟩⟩
    have s3 := upd_new (o := .tup (qs.map V.ref)) np
    exact q p qs _ ((s1.trans s2).trans s3) upd_same (al.mono fun u v z => z.same s3)
theorem scSumOf : FnScope ["swap", "done", "name", "told"] ["swap", "done", "name"] (defScope sSumOf) := ⟨rfl, rfl, rfl, by decide +kernel, rfl, by decide +kernel, by decide +kernel⟩
theorem ok_sumOf (HD : HasDoneSet P w K mg base C CH CS CW CD CI CT) (HS : HasStranger P w K mg base C CH CS CN) (HE : HasEffects P w K mg base C CH CS) (F : DefAt K "sum_of" "sum_of" sSumOf f fd) : FnOk P w K mg base (L2.CX P w) 8 f fd ["swap", "done", "name"] (spOf K C CH CS CW CD CI CT CN effs) := by
  obtain ⟨fd_, fdd, mD, kD_, bD, GD⟩ := HD.h
  obtain ⟨fs_, fds, mS, kS, bS, GS⟩ := HS.h
  obtain ⟨fe, fde, mE, kE, bE, GE⟩ := HE.h
  refine okX F scSumOf (fun vs H Q E ⟨u, v, x, e, _⟩ => by rw [e]; rfl) (fun cdv A outer s H vs Q E hr ⟨u, v, x, e, h⟩ => ?_)
  subst e
  have tk : Takes (cxOf (L2.CX P w) P w K mg base ["swap", "done", "name", "told"] "sum_of" (defScope sSumOf) f cdv A outer s H E) (fun cls d _ H' => E cls d H') := takes_of rfl rfl rfl rfl
  have ps := passes_call tk (E := E) fun _ _ _ _ z => z
  refine ⟨_, pss_cons (ps_set (i := 3) scSumOf.nd rfl (Or.inl rfl) (pe_call GD hr rfl mD kD_ bD .nil ps (pa_cons (pv 0) (pa_cons (pv 1) pa_nil))))
    (pss_cons (ps_expr (pe_call GS (hr.mono (by decide)) rfl mS kS bS .nil ps (pa_cons (pv 0) (pa_cons (pv 2) pa_nil))))
    (pss_one (ps_ret (pe_call (E := E0) GE hr rfl mE kE bE .nil pass0 (pa_cons (pv 0) (pa_cons (pv 3) (pa_cons (pv 2) pa_nil))))))), ?_⟩
  refine ⟨_, rfl, _, rfl, u, v, rfl, ds_in h fun a ns hs ks t H1 eu ha ok l50 n6 asc lt q s1 ht => ?_⟩
  subst eu
  have lk := nd_len (asc_nd asc) lt
  have sw1 := ha.same s1
  refine ⟨_, rfl, _, rfl, a, x, ns, hs, rfl, sw1, q.go s1 fun n ex q2 H2 s2 => ?_⟩
  subst ex
  exact ⟨_, rfl, _, rfl, _, rfl, a, t, ns, hs, n, ks, rfl, sw1.same s2, ok, .inr (s2 _ _ ht), lt, by omega, fun p H3 s3 np hp => q2 p H3 ((s1.trans s2).trans s3) hp⟩
abbrev nGave : List Str := ["swap", "done", "name", "told", "number"]
theorem gave_step {hs : List Hnd} {ks : List Nat} {i k : Nat} {h : Hnd} (ek : ks[i]? = some k) (eh : hs[k]? = some h) (b : Hnd → Bool) : ((ks.take (i + 1)).filterMap fun k => hs[k]?).filter b = ((ks.take i).filterMap fun k => hs[k]?).filter b ++ if b h = true then [h] else [] := by
  rw [take_more ek, List.filterMap_append, List.filterMap_cons, eh, List.filter_append, List.filterMap_nil, List.filter_cons, List.filter_nil]
theorem gave_few {hs : List Hnd} {ks : List Nat} (b : Hnd → Bool) : (((ks.filterMap fun k => hs[k]?).filter b)).length ≤ ks.length := Nat.le_trans (List.length_filter_le _ _) (List.length_filterMap_le _ _)
theorem scGave : FnScope nGave ["swap", "done", "name"] (defScope sGave) := ⟨rfl, rfl, rfl, by decide +kernel, rfl, by decide +kernel, by decide +kernel⟩
theorem ok_gave (RH : HandF K CH) (IO : ItemO P w K mg base C CH CS) (HD : HasDoneSet P w K mg base C CH CS CW CD CI CT) (HS : HasStranger P w K mg base C CH CS CN) (HA : HasAdded P w K mg base C) (F : DefAt K "gave" "gave" sGave f fd) : FnOk P w K mg base (L2.CX P w) 8 f fd ["swap", "done", "name"] (spOf K C CH CS CW CD CI CT CN gaveF) := by
  obtain ⟨fi, fdi, Mi, ki, bI, GI⟩ := IO.h
  obtain ⟨fd_, fdd, mD, kD_, bD, GD⟩ := HD.h
  obtain ⟨fs_, fds, mS, kS, bS, GS⟩ := HS.h
  obtain ⟨fa, fda, mA, kA, bA, GA⟩ := HA.h
  refine okX F scGave (fun vs H Q E ⟨u, v, x, e, _⟩ => by rw [e]; rfl) (fun cdv A outer s H vs Q E hr ⟨u, v, x, e, h⟩ => ?_)
  subst e
  have tk : Takes (cxOf (L2.CX P w) P w K mg base nGave "gave" (defScope sGave) f cdv A outer s H E) (fun cls d _ H' => E cls d H') := takes_of rfl rfl rfl rfl
  have ps := passes_call tk (E := E) fun _ _ _ _ z => z
  refine ⟨_, pss_cons (ps_set (i := 3) scGave.nd rfl (Or.inl rfl) (pe_call GD hr rfl mD kD_ bD .nil ps (pa_cons (pv 0) (pa_cons (pv 1) pa_nil))))
    (pss_cons (ps_expr (pe_call GS (hr.mono (by decide)) rfl mS kS bS .nil ps (pa_cons (pv 0) (pa_cons (pv 2) pa_nil))))
    (pss_one (ps_ret (pe_call (E := E0) GA (hr.mono (by decide)) rfl mA kA bA .nil pass0 (pa_cons
      (pe_lc (own := [("number", 4)]) (g := gName 4) rfl scGave.nd (pi_seq (pv 3)) (blkOk_by (N := nGave) (sc := defScope sGave) (by decide +kernel))
        (fun _ _ _ _ _ => pg_name (i := 4) scGave.nd rfl (Or.inl rfl))
        (fun _ _ _ _ _ => pts_one (pt_cmpR (r := rEq) op_eq (show PE _ _ (tFld K (tOp (rItO CS (spItem C CH CS) E0) (tVar 0) (tVar 4)) "giver") from pe_fld (pe_itemO (E := E0) Mi ki GI (hr.mono (by decide)) bI pass0 (pv 0) (pv 4)) rfl) (pv 2) (nomark _)))
        (fun _ _ _ _ _ => show PE _ _ (tFld K (tOp (rItO CS (spItem C CH CS) E0) (tVar 0) (tVar 4)) "cost") from pe_fld (pe_itemO (E := E0) Mi ki GI (hr.mono (by decide)) bI pass0 (pv 0) (pv 4)) rfl)) pa_nil))))), ?_⟩
  have sz : sizeLine = 16777216 := sizeLine_eq
  refine ⟨_, rfl, _, rfl, u, v, rfl, ds_in h fun a ns hs ks t H1 eu ha ok l50 n6 asc lt q s1 ht => ?_⟩
  subst eu
  have lk := nd_len (asc_nd asc) lt
  have sw1 := ha.same s1
  refine ⟨_, rfl, _, rfl, a, x, ns, hs, rfl, sw1, q.go s1 fun n ex q2 H2 s2 => ?_⟩
  subst ex
  have sw2 := sw1.same s2
  have ht2 := s2 _ _ ht
  refine ⟨_, rfl, t, rfl, ?_⟩
  refine lc_seqA (.inr ht2) fun D hD => ⟨fun i H3 => Same H2 H3 ∧ SixL C H3 D ((((ks.take i).filterMap fun k => hs[k]?).filter fun h => decide (h.g = n)).map Hnd.c), ⟨upd_new hD, [], upd_same, .nil⟩, fun i H3 _ z => ?_, ?_, ?_⟩
  · rw [ht2, z.1 _ _ ht2]
  · rintro i x H3 hx ⟨s3, sl3⟩
    obtain ⟨k, ek, rfl⟩ := map_at hx
    have hk := lt k (List.mem_of_getElem? ek)
    have li := (List.getElem?_eq_some_iff.mp ek).1
    have eh : hs[k]? = some hs[k] := List.getElem?_eq_getElem hk
    have sw3 := sw2.same s3
    obtain ⟨dx, pp, ph, pn, as, nas, h1, _⟩ := id sw3
    refine ⟨rfl, _, rfl, _, rfl, a, dx, _, rfl, h1, a, ns, hs, (k : Int), hs[k], rfl, sw3, by omega, by rw [Int.toNat_natCast]; exact eh, fun p H4 s4 hp => ?_⟩
    obtain ⟨dy, pc, pd, z1, sc, sd⟩ := id hp
    refine ⟨p, CH, dy, _, _, rfl, z1, RH.cl, RH.nG, fh_g _ _ _ _, _, rfl, rfl, decide (hs[k].g = n), by rw [decS], ?_⟩
    have step := gave_step ek eh fun h => decide (h.g = n)
    have sl4 := sl3.same s4
    have few := gave_few (hs := hs) (ks := ks.take i) fun h => decide (h.g = n)
    rw [List.length_take] at few
    cases c : decide (hs[k].g = n) with
    | false =>
      rw [c] at step
      refine iteF ⟨s3.trans s4, ?_⟩
      rw [step]
      simpa using sl4
    | true =>
      rw [c] at step
      have sw4 := sw3.same s4
      refine iteT ⟨_, rfl, _, rfl, a, dx, _, rfl, s4 _ _ h1, a, ns, hs, (k : Int), hs[k], rfl, sw4, by omega, by rw [Int.toNat_natCast]; exact eh, fun p2 H5 s5 hp2 => ?_⟩
      obtain ⟨dz, pc, pd, z2, sc, sd⟩ := id hp2
      obtain ⟨qs, hd, al⟩ := sl4.same s5
      refine ⟨p2, CH, dz, _, _, rfl, z2, RH.cl, RH.nC, fh_c _ _ _ _, _, hd, ?_, same_upd hD ((s3.trans s4).trans s5), qs ++ [pc], by rw [upd_same, List.map_append]; rfl, ?_⟩
      · rw [List.length_map, al.1, List.length_map]; omega
      · rw [step, List.map_append]
        exact All2.snoc (al.mono fun u v z => six_upd hd z) (six_upd hd sc)
  · rintro H3 ⟨s3, sl3⟩
    rw [show (kV ks).length = ks.length from List.length_map _, List.take_length] at sl3
    refine ⟨D, _, rfl, sl3, ⟨by have := gave_few (hs := hs) (ks := ks) fun h => decide (h.g = n); rw [List.length_map]; omega, fun x hx => ?_⟩, fun p H4 s4 np hp => q2 p H4 (((s1.trans s2).trans s3).trans s4) hp⟩
    obtain ⟨h, hm, rfl⟩ := List.mem_map.mp hx
    obtain ⟨k, _, e⟩ := List.mem_filterMap.mp (List.mem_filter.mp hm).1
    have := (ok h (List.mem_of_getElem? e)).cs
    show h.c.natAbs < _
    omega
theorem scTook : FnScope nGave ["swap", "done", "name"] (defScope sTook) := ⟨rfl, rfl, rfl, by decide +kernel, rfl, by decide +kernel, by decide +kernel⟩
theorem ok_took (RH : HandF K CH) (IO : ItemO P w K mg base C CH CS) (HD : HasDoneSet P w K mg base C CH CS CW CD CI CT) (HS : HasStranger P w K mg base C CH CS CN) (HA : HasAdded P w K mg base C) (F : DefAt K "took" "took" sTook f fd) : FnOk P w K mg base (L2.CX P w) 8 f fd ["swap", "done", "name"] (spOf K C CH CS CW CD CI CT CN tookF) := by
  obtain ⟨fi, fdi, Mi, ki, bI, GI⟩ := IO.h
  obtain ⟨fd_, fdd, mD, kD_, bD, GD⟩ := HD.h
  obtain ⟨fs_, fds, mS, kS, bS, GS⟩ := HS.h
  obtain ⟨fa, fda, mA, kA, bA, GA⟩ := HA.h
  refine okX F scTook (fun vs H Q E ⟨u, v, x, e, _⟩ => by rw [e]; rfl) (fun cdv A outer s H vs Q E hr ⟨u, v, x, e, h⟩ => ?_)
  subst e
  have tk : Takes (cxOf (L2.CX P w) P w K mg base nGave "took" (defScope sTook) f cdv A outer s H E) (fun cls d _ H' => E cls d H') := takes_of rfl rfl rfl rfl
  have ps := passes_call tk (E := E) fun _ _ _ _ z => z
  refine ⟨_, pss_cons (ps_set (i := 3) scTook.nd rfl (Or.inl rfl) (pe_call GD hr rfl mD kD_ bD .nil ps (pa_cons (pv 0) (pa_cons (pv 1) pa_nil))))
    (pss_cons (ps_expr (pe_call GS (hr.mono (by decide)) rfl mS kS bS .nil ps (pa_cons (pv 0) (pa_cons (pv 2) pa_nil))))
    (pss_one (ps_ret (pe_call (E := E0) GA (hr.mono (by decide)) rfl mA kA bA .nil pass0 (pa_cons
      (pe_lc (own := [("number", 4)]) (g := gName 4) rfl scTook.nd (pi_seq (pv 3)) (blkOk_by (N := nGave) (sc := defScope sTook) (by decide +kernel))
        (fun _ _ _ _ _ => pg_name (i := 4) scTook.nd rfl (Or.inl rfl))
        (fun _ _ _ _ _ => pts_one (pt_cmpR (r := rEq) op_eq (show PE _ _ (tFld K (tOp (rItO CS (spItem C CH CS) E0) (tVar 0) (tVar 4)) "taker") from pe_fld (pe_itemO (E := E0) Mi ki GI (hr.mono (by decide)) bI pass0 (pv 0) (pv 4)) rfl) (pv 2) (nomark _)))
        (fun _ _ _ _ _ => show PE _ _ (tFld K (tOp (rItO CS (spItem C CH CS) E0) (tVar 0) (tVar 4)) "gain") from pe_fld (pe_itemO (E := E0) Mi ki GI (hr.mono (by decide)) bI pass0 (pv 0) (pv 4)) rfl)) pa_nil))))), ?_⟩
  have sz : sizeLine = 16777216 := sizeLine_eq
  refine ⟨_, rfl, _, rfl, u, v, rfl, ds_in h fun a ns hs ks t H1 eu ha ok l50 n6 asc lt q s1 ht => ?_⟩
  subst eu
  have lk := nd_len (asc_nd asc) lt
  have sw1 := ha.same s1
  refine ⟨_, rfl, _, rfl, a, x, ns, hs, rfl, sw1, q.go s1 fun n ex q2 H2 s2 => ?_⟩
  subst ex
  have sw2 := sw1.same s2
  have ht2 := s2 _ _ ht
  refine ⟨_, rfl, t, rfl, ?_⟩
  refine lc_seqA (.inr ht2) fun D hD => ⟨fun i H3 => Same H2 H3 ∧ SixL C H3 D ((((ks.take i).filterMap fun k => hs[k]?).filter fun h => decide (h.t = n)).map Hnd.d), ⟨upd_new hD, [], upd_same, .nil⟩, fun i H3 _ z => ?_, ?_, ?_⟩
  · rw [ht2, z.1 _ _ ht2]
  · rintro i x H3 hx ⟨s3, sl3⟩
    obtain ⟨k, ek, rfl⟩ := map_at hx
    have hk := lt k (List.mem_of_getElem? ek)
    have li := (List.getElem?_eq_some_iff.mp ek).1
    have eh : hs[k]? = some hs[k] := List.getElem?_eq_getElem hk
    have sw3 := sw2.same s3
    obtain ⟨dx, pp, ph, pn, as, nas, h1, _⟩ := id sw3
    refine ⟨rfl, _, rfl, _, rfl, a, dx, _, rfl, h1, a, ns, hs, (k : Int), hs[k], rfl, sw3, by omega, by rw [Int.toNat_natCast]; exact eh, fun p H4 s4 hp => ?_⟩
    obtain ⟨dy, pc, pd, z1, sc, sd⟩ := id hp
    refine ⟨p, CH, dy, _, _, rfl, z1, RH.cl, RH.nT, fh_t _ _ _ _, _, rfl, rfl, decide (hs[k].t = n), by rw [decS], ?_⟩
    have step := gave_step ek eh fun h => decide (h.t = n)
    have sl4 := sl3.same s4
    have few := gave_few (hs := hs) (ks := ks.take i) fun h => decide (h.t = n)
    rw [List.length_take] at few
    cases c : decide (hs[k].t = n) with
    | false =>
      rw [c] at step
      refine iteF ⟨s3.trans s4, ?_⟩
      rw [step]
      simpa using sl4
    | true =>
      rw [c] at step
      have sw4 := sw3.same s4
      refine iteT ⟨_, rfl, _, rfl, a, dx, _, rfl, s4 _ _ h1, a, ns, hs, (k : Int), hs[k], rfl, sw4, by omega, by rw [Int.toNat_natCast]; exact eh, fun p2 H5 s5 hp2 => ?_⟩
      obtain ⟨dz, pc, pd, z2, sc, sd⟩ := id hp2
      obtain ⟨qs, hd, al⟩ := sl4.same s5
      refine ⟨p2, CH, dz, _, _, rfl, z2, RH.cl, RH.nD, fh_d _ _ _ _, _, hd, ?_, same_upd hD ((s3.trans s4).trans s5), qs ++ [pd], by rw [upd_same, List.map_append]; rfl, ?_⟩
      · rw [List.length_map, al.1, List.length_map]; omega
      · rw [step, List.map_append]
        exact All2.snoc (al.mono fun u v z => six_upd hd z) (six_upd hd sd)
  · rintro H3 ⟨s3, sl3⟩
    rw [show (kV ks).length = ks.length from List.length_map _, List.take_length] at sl3
    refine ⟨D, _, rfl, sl3, ⟨by have := gave_few (hs := hs) (ks := ks) fun h => decide (h.t = n); rw [List.length_map]; omega, fun x hx => ?_⟩, fun p H4 s4 np hp => q2 p H4 (((s1.trans s2).trans s3).trans s4) hp⟩
    obtain ⟨h, hm, rfl⟩ := List.mem_map.mp hx
    obtain ⟨k, _, e⟩ := List.mem_filterMap.mp (List.mem_filter.mp hm).1
    have := (ok h (List.mem_of_getElem? e)).ds
    show h.d.natAbs < _
    omega
end
end K5

/-! k04: along, done_sets. -/
namespace K5
open PySem PySem.Spec PyProof.Rows L2 LamX K1 K18 K4 RZ

theorem walk_zipT {K : PySem.W.Frag} {t b : Addr} {xs ys : List V} {n : Nat} (hn : n = min xs.length ys.length) : Walk (ItzT K t b) n (fun H => SqT K H t xs ∧ SqT K H b ys) (YPair (fun i => xs[i]?) (fun i => ys[i]?)) := by
  subst hn
  refine ⟨fun i _ hi q => ⟨xs, ys, xs[i]'(by omega), ys[i]'(by omega), q.1, q.2, List.getElem?_eq_getElem _, List.getElem?_eq_getElem _⟩, fun _ q => ⟨xs, ys, q.1, q.2, by omega⟩, fun i H v H' _ q y => ?_⟩
  obtain ⟨T, x, z, h1, h2, h3, h4, h5⟩ := y
  exact ⟨T, x, z, h1, h2, h3, h4 xs q.1, h5 ys q.2⟩
/-- at p stands a line of sixths -/
def LineAt (C : Addr) (H : Hp) (p : Addr) (zs : List Int) : Prop := ∃ qs, H p = some (.tup (qs.map V.ref)) ∧ All2 (Six C H) qs zs
theorem LineAt.same {C : Addr} {H H' : Hp} {p : Addr} {zs : List Int} (s : Same H H') (h : LineAt C H p zs) : LineAt C H' p zs := let ⟨qs, a, b⟩ := h; ⟨qs, s _ _ a, b.mono fun _ _ z => z.same s⟩
/-- the line behind one more -/
def lineAdd (ns : List Str) (zs : List Int) (h : Hnd) : List Int := (zs.zip ns).map fun z => z.1 + h.eff z.2
def spLineB (C CH CS : Addr) : Sp := fun vs H Q _ => ∃ (a p : Addr) (k : Nat) (ns : List Str) (hs : List Hnd) (zs : List Int) (h : Hnd), vs = [.ref a, .ref p, .int k] ∧ SwAt C CH CS H a ns hs ∧ (∀ h ∈ hs, HnOk h) ∧ hs[k]? = some h ∧ LineAt C H p zs ∧ zs.length = ns.length ∧ ns.length ≤ 6 ∧ (∀ z ∈ zs, z.natAbs < 2 ^ 60) ∧
  ∀ q H', Same H H' → LineAt C H' q (lineAdd ns zs h) → Q (.ref q) H'
section
variable {P : Program} {w : World} {K : PySem.W.Frag} {mg : Str → Option Value} {base : Heap} {f C CH CS CW CD CI CT CU CM CN : Addr} {fd : FuncData}
abbrev nLineB : List Str := ["swap", "line", "number", "total", "name"]
theorem scLineB : FnScope nLineB ["swap", "line", "number"] (defScope sLineB) := ⟨rfl, rfl, rfl, by decide +kernel, rfl, by decide +kernel, by decide +kernel⟩
theorem ok_lineB (G : Glob mg) (R : SwapF K CS) (RH : HandF K CH) (IO : ItemO P w K mg base C CH CS) (EM : EffM P w K mg base C CH) (OA : AddO P w K mg base C CX0 5 (spSum C)) (F : DefAt K "_line_behind" "_line_behind" sLineB f fd) : FnOk P w K mg base CX0 7 f fd ["swap", "line", "number"] (spLineB C CH CS) := by
  obtain ⟨fi, fdi, Mi, ki, bI, GI⟩ := IO.h
  obtain ⟨fe, fde, Me, bE, GE⟩ := EM.h
  obtain ⟨fo, fdo, MO, bO, GO⟩ := OA.o.h
  refine okN F scLineB (fun vs H Q E ⟨a, p, k, ns, hs, zs, h, e, _⟩ => by rw [e]; rfl) (fun cdv A outer s H vs Q E hr ⟨a, p, k, ns, hs, zs, h, e, ha, ok, eh, hl, lz, n6, sm, q⟩ => ?_)
  subst e
  refine ⟨_, pss_one (ps_ret (pe_callTy (r := rTupK K) (call_tupK rfl) (by rfl) G.tup (by decide +kernel) (pa_cons
      (pe_lc (own := [("total", 3), ("name", 4)]) (g := gTup K 2 (gCons (gName 3) (gCons (gName 4) gNil))) (tt := tYes) rfl scLineB.nd (pi_zipA (by rfl) G.zip (pa_cons (pv 1) (pa_cons (pe_fld (pv 0) rfl) pa_nil))) (blkOk_by (N := nLineB) (sc := defScope sLineB) (by decide +kernel))
        (fun _ _ _ _ _ => pg_tup (by rfl) (pgs_cons (pg_name (i := 3) scLineB.nd rfl (Or.inl rfl)) (pgs_cons (pg_name (i := 4) scLineB.nd rfl (Or.inl rfl)) pgs_nil))) (fun _ _ _ _ _ => pts_nil)
        (fun _ _ _ _ _ => pe_op (r := rOwn K C .Add (spSum C) E0) (op_own (op := .Add) (E := E0) MO OA.sf OA.nr GO (hr.mono (by decide)) bO pass0) (pv 3) (pe_meth (E := E0) (pe_itemO (E := E0) Mi ki GI (hr.mono (by decide)) bI pass0 (pv 0) (pv 2)) RH.cl Me GE (hr.mono (by decide)) bE .nil pass0 (pa_cons (pv 4) pa_nil)))) pa_nil))), ?_⟩
  have sz : sizeLine = 16777216 := sizeLine_eq
  obtain ⟨qs, hp, al⟩ := id hl
  obtain ⟨dx, pp, ph, pn, as, nas, h1, h2, h3, h4, h5, h6⟩ := id ha
  refine ⟨_, rfl, _, rfl, a, CS, dx, _, _, rfl, h1, R.cl, R.nS, fs_s _ _ _, p, pp, _, _, rfl, .inr ⟨SqT.of hp, h2.sq, fun D hD => ?_⟩⟩
  have okh := ok h (List.mem_of_getElem? eh)
  have lq : qs.length = zs.length := al.1
  refine lc_it (walk_zipT (n := zs.length) (xs := qs.map V.ref) (ys := ns.map V.str) (by rw [List.length_map, List.length_map, lq, lz, Nat.min_self])) (fun i H2 => Same H H2 ∧ ∃ rs, H2 D = some (.lst (rs.map V.ref)) ∧ All2 (Six C H2) rs (((zs.zip ns).take i).map fun z => z.1 + h.eff z.2)) ⟨upd_new hD, [], upd_same, .nil⟩ (fun i H2 _ z => ⟨SqT.of (z.1 _ _ hp), (h2.same z.1).sq⟩) ?_ ?_
  · rintro i v H2 H3 hi ⟨s2, rs, hd, rl⟩ ⟨T, x, y, rfl, nT, rfl, ex, ey⟩
    obtain ⟨b, eb, rfl⟩ := map_at ex
    obtain ⟨n, en, rfl⟩ := map_at ey
    obtain ⟨z, ez, hb⟩ := al.get eb
    have zz : (zs.zip ns)[i]? = some (z, n) := by rw [List.getElem?_zip_eq_some]; exact ⟨ez, en⟩
    have s3 := upd_new (o := .tup [.ref b, .str n]) nT
    have hT : upd H2 T (.tup [.ref b, .str n]) T = some (.tup [.ref b, .str n]) := upd_same
    generalize upd H2 T (.tup [.ref b, .str n]) = H3 at s3 hT ⊢
    have s23 := s2.trans s3
    have sw3 := ha.same s23
    obtain ⟨dy, _, _, _, _, _, k1, _⟩ := id sw3
    refine ⟨T, _, rfl, SqT.of hT, rfl, _, _, rfl, _, _, rfl, rfl, rfl, yes_of ⟨_, rfl, _, rfl, _, rfl, a, dy, _, rfl, k1, a, ns, hs, (k : Int), h, rfl, sw3, by omega, by rw [Int.toNat_natCast]; exact eh, fun g H4 s4 hg => ?_⟩⟩
    obtain ⟨dg, pc, pd, g1, _, _⟩ := id hg
    refine ⟨g, dg, _, rfl, g1, no_eff _ _ _ _, _, rfl, g, h, n, rfl, hg, okh, fun r H5 s5 hr5 => ?_⟩
    have hb5 := (hb.same s23).same (s4.trans s5)
    obtain ⟨db, b1⟩ := id hb5
    obtain ⟨dr, r1⟩ := id hr5
    have smz := sm z (List.mem_of_getElem? ez)
    have sme := eff_sm okh n
    refine ⟨b, db, _, rfl, b1, .inl ⟨r, dr, _, rfl, r1⟩, b, .ref r, _, _, rfl, hb5, .inl ⟨r, rfl, hr5⟩, by show z.natAbs < 2 ^ 60; omega, by show (h.eff n).natAbs < 2 ^ 60; omega, fun p2 H6 s6 np2 hp2 => ?_⟩
    have s36 := (s4.trans s5).trans s6
    have hd6 := s36 _ _ (s3 _ _ hd)
    refine ⟨_, hd6, ?_, same_upd hD (s23.trans s36), rs ++ [p2], by rw [upd_same, List.map_append]; rfl, ?_⟩
    · rw [List.length_map, rl.1, List.length_map, List.length_take, List.length_zip]; omega
    · rw [take_more zz, List.map_append]
      exact All2.snoc ((rl.mono fun u v z => z.same (s3.trans s36)).mono fun u v z => six_upd hd6 z) (six_upd hd6 hp2)
  · rintro H2 ⟨s2, rs, hd, rl⟩
    have e : (zs.zip ns).take zs.length = zs.zip ns := List.take_of_length_le (by rw [List.length_zip]; omega)
    rw [e] at rl
    refine ⟨D, _, rfl, .inl ⟨SqL.of hd, fun r nr => ?_⟩⟩
    have s3 := upd_new (o := .tup (rs.map V.ref)) nr
    exact q r _ (s2.trans s3) ⟨rs, upd_same, rl.mono fun u v z => z.same s3⟩
end
end K5

/-! k04: along, done_sets: generators. -/
namespace K5
open PySem PySem.Spec PyProof.Rows L2 LamX K1 K18 K4

theorem HandsW.imp {K : PySem.W.Frag} {CD CH CT : Addr} {m : Int} {v part : V} {H : Hp} {E : XK} {k k' : List Int → Addr → Prop} (h : HandsW K CD CH CT m v part H E k) (f : ∀ ns a, SqA H a (ns.map V.int) → k ns a → k' ns a) : HandsW K CD CH CT m v part H E k' :=
  h.imp id fun ⟨a, ns, e, sq, l, q1, q2, q3⟩ => ⟨a, ns, e, sq, l, q1, q2, fun al nd => f ns a sq (q3 al nd)⟩
def lines (ns : List Str) (hs : List Hnd) (ks : List Nat) : List (List Int) := (List.range (ks.length + 1)).map fun j => ns.map (effs hs (ks.take j))
theorem effs_snoc {hs : List Hnd} {ks : List Nat} {k : Nat} {h : Hnd} (e : hs[k]? = some h) (n : Str) : effs hs (ks ++ [k]) n = effs hs ks n + h.eff n := by
  unfold effs
  rw [List.map_append, List.sum_append]
  simp [e]
theorem effs_nil (hs : List Hnd) (n : Str) : effs hs [] n = 0 := rfl
theorem effs_sm {hs : List Hnd} {ks : List Nat} (ok : ∀ h ∈ hs, HnOk h) (l : ks.length ≤ 100) (n : Str) : (effs hs ks n).natAbs < 2 ^ 60 := by
  have fw : Few (ks.map fun k => match hs[k]? with | some h => h.eff n | none => 0) := ⟨by rw [List.length_map]; exact l, fun x hx => by
    obtain ⟨k, mk, rfl⟩ := List.mem_map.mp hx
    cases e : hs[k]? with
    | none => simp
    | some h => exact eff_sm (ok _ (List.mem_of_getElem? e)) n⟩
  have z := few_sum fw (ks.map fun k => match hs[k]? with | some h => h.eff n | none => 0).length
  rw [List.take_length] at z
  exact z
theorem line_more {ns : List Str} {hs : List Hnd} {ks : List Nat} {k : Nat} {h : Hnd} (e : hs[k]? = some h) : lineAdd ns (ns.map (effs hs ks)) h = ns.map (effs hs (ks ++ [k])) := by
  unfold lineAdd
  induction ns with
  | nil => rfl
  | cons n r ih =>
    rw [List.map_cons, List.zip_cons_cons, List.map_cons, ih, List.map_cons, effs_snoc e]
def spAlong (K : PySem.W.Frag) (C CH CS CW CD CI CT : Addr) : SpG := fun vs H Qg E => ∃ u v, vs = [u, v] ∧ ((NotSw K CS H u ∧ ∀ d H', ToldF H H' d [("part", .str "swap")] → E (.ref CW) (some d) H') ∨
  ∃ a ns hs, u = .ref a ∧ SwAt C CH CS H a ns hs ∧ (∀ h ∈ hs, HnOk h) ∧ hs.length ≤ 50 ∧ ns.length ≤ 6 ∧ HandsW K CD CI CT (hs.length : Nat) v (.str "numbers") H E fun js b => ∃ ks : List Nat, js = nI ks ∧ (∀ k ∈ ks, k < hs.length) ∧ ks.length ≤ 100 ∧
    ∀ (ps : List Addr) H', Same H H' → All2 (LineAt C H') ps (lines ns hs ks) → Qg (ps.map V.ref) H')
def spDoneSets (K : PySem.W.Frag) (C CH CS CW CM : Addr) : SpG := fun vs H Qg E => ∃ u, vs = [u] ∧ ((NotSw K CS H u ∧ ∀ d H', ToldF H H' d [("part", .str "swap")] → E (.ref CW) (some d) H') ∨
  ∃ a ns hs, u = .ref a ∧ SwAt C CH CS H a ns hs ∧ hs.length ≤ 1000 ∧ (12 < hs.length → ∀ d H', ToldF H H' d [("most", .int 12), ("what", .str "hands")] → E (.ref CM) (some d) H') ∧
    (hs.length ≤ 12 → ∀ (as : List Addr) H', Same H H' → Sets H' as (setsN hs.length) → Qg (as.map V.ref) H'))
theorem gfn_in {P : Program} {w : World} {K : PySem.W.Frag} {mg : Str → Option Value} {base : Heap} {x qual : Str} {st : Stmt} {f : Addr} {fd : FuncData} {N ps : List Str} {k : Nat} {sp : SpG}
    (F : DefAt K x qual st f fd) (S : GScope N ps (defScope st)) (len : ∀ vs H Q E, sp vs H Q E → vs.length = ps.length)
    (hb : ∀ (cdv : Value) (A : Around) (outer : List Env) (s : Shared) (H : Hp) (vs : List V) (Q : List V → Hp → Prop) (E : XK) (pn : List (Addr × Obj)), Room k (A.deeper (envOfC qual (defScope st) s.heap.objs.size f cdv)) → sp vs H Q E →
      ∃ t, GSs (gcxOf P w K mg base N qual (defScope st) f cdv A outer s H E pn) (defBody st) t ∧ t { nx := fun ys _ H' => Q ys H', rt := fun ys v H' => v = .non ∧ Q ys H' } [] (start N vs) H) : GFn P w K mg base (k + 1) f fd ps sp := by
  obtain ⟨oc, od, dV, kV, doc, pm, an, cdv, ct, osl, rfl, lk, hcd, _, _⟩ := F.ex
  exact gfn_of lk hcd S len fun A outer s H vs Q E pn hr h => hb cdv A outer s H vs Q E pn hr h
section
variable {P : Program} {w : World} {K : PySem.W.Frag} {mg : Str → Option Value} {base : Heap} {f C CH CS CW CD CI CT CU CM CN : Addr} {fd : FuncData}
abbrev HasLineB (P : Program) (w : World) (K : PySem.W.Frag) (mg : Str → Option Value) (base : Heap) (C CH CS : Addr) : Prop := Has P w K mg base CX0 7 "_line_behind" ["swap", "line", "number"] (spLineB C CH CS)
abbrev HasSetsIn (P : Program) (w : World) (K : PySem.W.Frag) (mg : Str → Option Value) (base : Heap) : Prop := Has P w K mg base CX0 2 "sets_in_order" ["many"] spSetsIn
abbrev nAlong : List Str := ["swap", "numbers", "told", "line", "number", "name"]
theorem scAlong : GScope nAlong ["swap", "numbers"] (defScope sAlong) := ⟨rfl, rfl, rfl, by decide +kernel, rfl, by decide +kernel, by decide +kernel⟩
theorem ok_along (G : Glob mg) (R : SwapF K CS) (MR : MkR P w K mg base C) (HC : HasCheck P w K mg base C CH CS CW) (HH : HasHands P w K mg base CD CI CT) (OL : LenO P w K mg base C CH CS) (HL : HasLineB P w K mg base C CH CS) (F : DefAt K "along" "along" sAlong f fd) :
    GFn P w K mg base 8 f fd ["swap", "numbers"] (spAlong K C CH CS CW CD CI CT) := by
  obtain ⟨fc, fdc, mC, kC, bC, GC⟩ := HC.h
  obtain ⟨fh, fdh, mH, kH, bH, GH⟩ := HH.h
  obtain ⟨fl, fdl, ML, bL, GL⟩ := OL.o.h
  obtain ⟨fb, fdb, mB, kB, bB, GB⟩ := HL.h
  obtain ⟨fm, fdm, ds, M, GM, _, hv, bM⟩ := MR.m
  refine gfn_in F scAlong (fun vs H Q E ⟨u, v, e, _⟩ => by rw [e]; rfl) (fun cdv A outer s H vs Q E pn hr ⟨u, v, e, h⟩ => ?_)
  subst e
  have ps := passes_call (X := gcxOf P w K mg base nAlong "along" (defScope sAlong) f cdv A outer s H E pn) (takes_gcx (N := nAlong) (E := E)) (E := E) fun _ _ _ _ z => z
  refine ⟨_, gss_cons (gs_ps (ps_expr (pe_call GC (hr.mono (by decide)) rfl mC kC bC .nil ps (pa_cons (pv 0) pa_nil))))
    (gss_cons (gs_ps (ps_set (i := 2) scAlong.nd rfl (Or.inl rfl) (pe_call GH (hr.mono (by decide)) rfl mH kH bH .nil ps (pa_cons (pe_callB (call_lenO ML GL (hr.mono (by decide)) bL pass0) (by rfl) G.len PySem.boot_len (pa_cons (pv 0) pa_nil)) (pa_cons (pv 1) (pa_cons pe_str pa_nil))))))
    (gss_cons (gs_ps (ps_set (i := 3) scAlong.nd rfl (Or.inl rfl) (pe_callTy (r := rTupK K) (call_tupK rfl) (by rfl) G.tup (by decide +kernel) (pa_cons
      (pe_lc (own := [("name", 5)]) (g := gName 5) (tt := tYes) rfl scAlong.nd (pi_tup (pe_fld (pv 0) rfl)) (blkOk_by (N := nAlong) (sc := defScope sAlong) (by decide +kernel))
        (fun _ _ _ _ _ => pg_name (i := 5) scAlong.nd rfl (Or.inl rfl)) (fun _ _ _ _ _ => pts_nil) (fun _ _ _ _ _ => pe_make (E := E0) M GM (hr.mono (by decide)) rfl MR.g bM hv pass0 (pa_cons pe_int pa_nil))) pa_nil))))
    (gss_cons (gs_yield (pv 3))
    (gss_cons (gs_for owns_gcx rfl (pi_tup (pv 2)) (pg_name (i := 4) scAlong.nd rfl (Or.inl rfl))
      (gss_cons (gs_ps (ps_set (i := 3) scAlong.nd rfl (Or.inl rfl) (pe_call (E := E0) GB hr rfl mB kB bB .nil pass0 (pa_cons (pv 0) (pa_cons (pv 3) (pa_cons (pv 4) pa_nil))))))
      (gss_cons (gs_yield (pv 3)) gss_nil))) gss_nil)))), ?_⟩
  have sz : sizeLine = 16777216 := sizeLine_eq
  rcases h with ⟨nt, q⟩ | ⟨a, ns, hs, rfl, ha, ok, l50, n6, hw⟩
  · exact ⟨_, rfl, u, rfl, .inr ⟨nt, q⟩⟩
  refine ⟨_, rfl, _, rfl, .inl ⟨a, ns, hs, rfl, ha, ?_⟩⟩
  obtain ⟨dx, pp, ph, pq, as, nas, h1, h2, h3, h4, h5, h6⟩ := id ha
  refine ⟨_, rfl, a, dx, _, rfl, h1, a, ns, hs, rfl, ha, _, rfl, by omega, by omega, _, rfl, _, _, _, rfl, HandsW.imp hw ?_⟩
  rintro js b _ ⟨ks, ej, lt, lk, q⟩ t H1 s1 ht
  subst ej
  rw [← kV_eq] at ht
  have sw1 := ha.same s1
  have h12 := h2.same s1
  refine ⟨_, rfl, a, CS, dx, _, _, rfl, s1 _ _ h1, R.cl, R.nS, fs_s _ _ _, pp, rfl, ⟨_, h12.sq⟩, fun D hD => ?_⟩
  refine lc_tup (K := K) (a := pp) (xs := ns.map V.str) (fun i H2 => Same H1 H2 ∧ SixL C H2 D ((ns.take i).map (effs hs []))) ⟨upd_new hD, [], upd_same, .nil⟩ (fun i H2 _ z => (h12.same z.1).sq) ?_ ?_
  · rintro i x H2 hx ⟨s2, sl2⟩
    obtain ⟨n, en, rfl⟩ := map_at hx
    have li := (List.getElem?_eq_some_iff.mp en).1
    refine ⟨rfl, yes_of (mk_int (by decide) fun p H3 s3 np hp => ?_)⟩
    obtain ⟨qs, hd, al⟩ := sl2.same s3
    refine ⟨_, hd, ?_, same_upd hD (s2.trans s3), qs ++ [p], by rw [upd_same, List.map_append]; rfl, ?_⟩
    · rw [List.length_map, al.1, List.length_map, List.length_take]; omega
    · rw [take_more en, List.map_append]
      exact All2.snoc (al.mono fun u v z => six_upd hd z) (six_upd hd hp)
  rintro H2 ⟨s2, qs, hd, al⟩
  rw [List.length_map, List.take_length] at al
  refine ⟨D, _, rfl, .inl ⟨SqL.of hd, fun p0 np0 => ?_⟩⟩
  have s3 := upd_new (o := .tup (qs.map V.ref)) np0
  have hp0 : LineAt C (upd H2 p0 (.tup (qs.map V.ref))) p0 (ns.map (effs hs [])) := ⟨qs, upd_same, al.mono fun u v z => z.same s3⟩
  generalize upd H2 p0 (.tup (qs.map V.ref)) = H3 at s3 hp0 ⊢
  have s13 := s2.trans s3
  refine ⟨(by show 0 < sizeLine; omega), _, rfl, ?_⟩
  refine ⟨_, rfl, t, rfl, ⟨_, SqT.of (s13 _ _ ht)⟩, ?_⟩
  refine gfor_it (walk_tup (xs := kV ks)) (fun i ys σ H5 => ∃ (p : Addr) (z4 : Option V) (ps : List Addr), σ = [some (.ref a), some v, some (.ref t), some (.ref p), z4, none] ∧ ys = ps.map V.ref ∧ Same H3 H5 ∧ LineAt C H5 p (ns.map (effs hs (ks.take i))) ∧ All2 (LineAt C H5) ps ((List.range (i + 1)).map fun j => ns.map (effs hs (ks.take j))))
    ⟨p0, none, [p0], rfl, rfl, Same.refl _, hp0, All2.nil.snoc hp0⟩ (fun i ys σ H5 _ ⟨_, _, _, _, _, s5, _⟩ => SqT.of (s5 _ _ (s13 _ _ ht))) ?_ ?_
  · rintro i x ys σ H5 H6 hi ⟨p, z4, ps, rfl, rfl, s5, lp, al5⟩ ⟨rfl, ex⟩
    obtain ⟨k, ek, rfl⟩ := map_at ex
    have hk := lt k (List.mem_of_getElem? ek)
    have eh : hs[k]? = some hs[k] := List.getElem?_eq_getElem hk
    have li := (List.getElem?_eq_some_iff.mp ek).1
    have lps := al5.1
    rw [List.length_map, List.length_range] at lps
    refine ⟨_, rfl, _, rfl, _, rfl, a, p, k, ns, hs, _, hs[k], rfl, (sw1.same s13).same s5, ok, eh, lp, by rw [List.length_map], n6, fun z hz => ?_, fun q' H7 s7 lq => ?_⟩
    · obtain ⟨n, _, rfl⟩ := List.mem_map.mp hz
      exact effs_sm ok (by rw [List.length_take]; omega) n
    rw [line_more eh, ← take_more ek] at lq
    refine ⟨(by rw [List.length_map]; omega), _, rfl, q', _, ps ++ [q'], rfl, by rw [List.map_append]; rfl, s5.trans s7, lq, ?_⟩
    rw [List.range_succ, List.map_append]
    exact (al5.mono fun u v z => z.same s7).snoc lq
  · rintro ys σ H5 ⟨p, z4, ps, rfl, rfl, s5, lp, al5⟩
    rw [kV_len] at al5
    exact q ps H5 ((s1.trans s13).trans s5) al5
abbrev nDoneSets : List Str := ["swap", "done"]
theorem scDoneSets : GScope nDoneSets ["swap"] (defScope sDoneSets) := ⟨rfl, rfl, rfl, by decide +kernel, rfl, by decide +kernel, by decide +kernel⟩
/-- MOST_HANDS, of the sums -/
structure MostH (mg : Str → Option Value) : Prop where
  h : ∃ u, mg "MOST_HANDS" = some u ∧ RelV (.int 12) u
theorem ok_doneSets (G : Glob mg) (MO : MostH mg) (B : ErrR P w K mg base CM "TooMany" ["what", "most"]) (HC : HasCheck P w K mg base C CH CS CW) (OL : LenO P w K mg base C CH CS) (HS : HasSetsIn P w K mg base) (F : DefAt K "done_sets" "done_sets" sDoneSets f fd) :
    GFn P w K mg base 4 f fd ["swap"] (spDoneSets K C CH CS CW CM) := by
  obtain ⟨fc, fdc, mC, kC, bC, GC⟩ := HC.h
  obtain ⟨fl, fdl, ML, bL, GL⟩ := OL.o.h
  obtain ⟨fs, fds, mS, kS, bS, GS⟩ := HS.h
  obtain ⟨u12, g12, r12⟩ := MO.h
  refine gfn_in F scDoneSets (fun vs H Q E ⟨u, e, _⟩ => by rw [e]; rfl) (fun cdv A outer s H vs Q E pn hr ⟨u, e, h⟩ => ?_)
  subst e
  have tk : Takes (gcxOf P w K mg base nDoneSets "done_sets" (defScope sDoneSets) f cdv A outer s H E pn) (fun cls d _ H' => E cls d H') := takes_gcx
  have ps := passes_call (X := gcxOf P w K mg base nDoneSets "done_sets" (defScope sDoneSets) f cdv A outer s H E pn) tk (E := E) fun _ _ _ _ z => z
  refine ⟨_, gss_cons (gs_ps (ps_expr (pe_call GC hr rfl mC kC bC .nil ps (pa_cons (pv 0) pa_nil))))
    (gss_cons (gs_ps (ps_if (pt_cmpR op_gt (pe_callB (call_lenO ML GL (hr.mono (by decide)) bL pass0) (by rfl) G.len PySem.boot_len (pa_cons (pv 0) pa_nil)) (pe_glob (v := .int 12) rfl g12 r12) (nomark _)) (pss_one (ps_rs B rfl tk (hr.mono (by decide)) (pa_cons pe_str (pa_cons (pe_glob (v := .int 12) rfl g12 r12) pa_nil)))) pss_nil))
    (gss_cons (gs_for owns_gcx rfl (pi_list (pe_call (E := E0) GS (hr.mono (by decide)) rfl mS kS bS .nil pass0 (pa_cons (pe_callB (call_lenO ML GL (hr.mono (by decide)) bL pass0) (by rfl) G.len PySem.boot_len (pa_cons (pv 0) pa_nil)) pa_nil))) (pg_name (i := 1) scDoneSets.nd rfl (Or.inl rfl))
      (gss_cons (gs_yield (pv 1)) gss_nil)) gss_nil)), ?_⟩
  have sz : sizeLine = 16777216 := sizeLine_eq
  rcases h with ⟨nt, q⟩ | ⟨a, ns, hs, rfl, ha, l1000, q1, q2⟩
  · exact ⟨_, rfl, u, rfl, .inr ⟨nt, q⟩⟩
  refine ⟨_, rfl, _, rfl, .inl ⟨a, ns, hs, rfl, ha, ?_⟩⟩
  obtain ⟨dx, pp, ph, pq, as, nas, h1, h2, h3, h4, h5, h6⟩ := id ha
  refine ⟨_, rfl, a, dx, _, rfl, h1, a, ns, hs, rfl, ha, _, rfl, by omega, by omega, _, _, rfl, rfl, decide ((hs.length : Int) > 12), rfl, ?_⟩
  by_cases big : 12 < hs.length
  · rw [decide_eq_true (show (hs.length : Int) > 12 by omega)]
    refine iteT ?_
    show rsK CM ["what", "most"] (fun cls d _ H' => E cls d H') [some (V.ref a), none] [V.str "hands", V.int 12] H
    exact rs_of rfl (by show 2 ≤ 1000; decide) fun d H' t => q1 big d H' t
  rw [decide_eq_false (show ¬ (hs.length : Int) > 12 by omega)]
  refine iteF ⟨_, rfl, a, dx, _, rfl, h1, a, ns, hs, rfl, ha, _, rfl, by omega, by omega, hs.length, rfl, by omega, fun l H1 s1 nl sl => ?_⟩
  obtain ⟨bs, hb, bl⟩ := sl
  refine ⟨l, rfl, ⟨_, SqL.of hb⟩, ?_⟩
  refine gfor_it (walk_list (xs := bs.map V.ref)) (fun i ys σ H5 => ∃ (z1 : Option V), σ = [some (.ref a), z1] ∧ ys = (bs.take i).map V.ref ∧ H5 = H1)
    ⟨none, rfl, rfl, rfl⟩ (fun i ys σ H5 _ ⟨_, _, _, e⟩ => by rw [e]; exact SqL.of hb) ?_ ?_
  · rintro i x ys σ H5 H6 hi ⟨z1, rfl, rfl, rfl⟩ ⟨rfl, ex⟩
    obtain ⟨b, eb, rfl⟩ := map_at ex
    have li := (List.getElem?_eq_some_iff.mp eb).1
    have few : (setsN hs.length).length ≤ 4096 := upto_len (t := hs.length + 1) (by omega) (by omega)
    refine ⟨(by rw [List.length_map, List.length_take]; have := bl.1; omega), _, rfl, some (.ref b), rfl, by rw [take_more eb, List.map_append]; rfl, rfl⟩
  · rintro ys σ H5 ⟨z1, rfl, rfl, rfl⟩
    rw [List.length_map, List.take_length]
    exact q2 (by omega) bs _ s1 bl
end
end K5

/-! k04: is_even, is_gainful, is_even_priced, net. -/
namespace K5
open PySem PySem.Spec PyProof.Rows L2 LamX K1 K18 K4

def spAllNets (C CH CS : Addr) (t : Int → Bool) : Sp := fun vs H Q _ => ∃ a ns hs, vs = [.ref a] ∧ SwAt C CH CS H a ns hs ∧ ns.length ≤ 6 ∧ ∀ H', Same H H' → Q (.bl ((ns.map (net hs)).all t)) H'
def spPriced (C CH CS : Addr) : Sp := fun vs H Q _ => ∃ a ns hs, vs = [.ref a] ∧ SwAt C CH CS H a ns hs ∧ hs.length ≤ 100 ∧ ∀ H', Same H H' → Q (.bl (hs.all fun h => decide (h.c = h.d))) H'
def spNet (K : PySem.W.Frag) (C CH CS CN : Addr) : Sp := fun vs H Q E => ∃ a v ns hs, vs = [.ref a, v] ∧ SwAt C CH CS H a ns hs ∧ ns.Nodup ∧ StrW K CN ns v H E fun n => ∀ p H', Same H H' → Six C H' p (net hs n) → Q (.ref p) H'
/-- x.sign -/
structure SignP (P : Program) (w : World) (K : PySem.W.Frag) (mg : Str → Option Value) (base : Heap) (C : Addr) : Prop where
  h : ∃ p f fd, PropOf K C "sign" p f ∧ Binds K fd ["self"] [] ∧ FnOk P w K mg base CX0 1 f fd ["self"] (spSign C)
def is0 (z : Int) : Bool := decide (z = 0)
def ge0 (z : Int) : Bool := decide (0 ≤ z)
section
variable {P : Program} {w : World} {K : PySem.W.Frag} {mg : Str → Option Value} {base : Heap} {f C CH CS CW CD CI CT CU CM CN : Addr} {fd : FuncData}
theorem scEven : FnScope ["self", "net"] ["self"] (defScope sSEven) := ⟨rfl, rfl, rfl, by decide +kernel, rfl, by decide +kernel, by decide +kernel⟩
theorem ok_even (G : Glob mg) (R : SwapF K CS) (RR : RatF K C) (SP : SignP P w K mg base C) (F : DefAt K "is_even" "Swap.is_even" sSEven f fd) : FnOk P w K mg base CX0 3 f fd ["self"] (spAllNets C CH CS is0) := by
  obtain ⟨ps, fs, fds, PS_, bS, GS⟩ := SP.h
  refine okN F scEven (fun vs H Q E ⟨a, ns, hs, e, _⟩ => by rw [e]; rfl) (fun cdv A outer s H vs Q E hr ⟨a, ns, hs, e, ha, n6, q⟩ => ?_)
  subst e
  refine ⟨_, pss_one (ps_ret (pe_callB (cr_all rfl) (by rfl) G.all (by decide +kernel) (pa_cons
      (pe_lc (own := [("net", 1)]) (g := gName 1) (tt := tYes) rfl scEven.nd (pi_tup (pe_fld (pv 0) rfl)) (blkOk_by (N := ["self", "net"]) (sc := defScope sSEven) (by decide +kernel))
        (fun _ _ _ _ _ => pg_name (i := 1) scEven.nd rfl (Or.inl rfl)) (fun _ _ _ _ _ => pts_nil) (fun _ _ _ _ _ => pe_cmpR (r := rEq) op_eq (pe_prop (E := E0) (pv 1) RR.cl PS_ GS hr bS .nil pass0 rfl) pe_int (nomark _))) pa_nil))), ?_⟩
  have sz : sizeLine = 16777216 := sizeLine_eq
  obtain ⟨dx, pp, ph, pn, as, nas, h1, h2, h3, h4, h5, h6⟩ := id ha
  refine ⟨_, rfl, a, CS, dx, _, _, rfl, h1, R.cl, R.nN, fs_n _ _ _, pn, rfl, ⟨_, SqT.of h5⟩, fun D hD => ?_⟩
  refine lc_tup (K := K) (a := pn) (xs := nas.map V.ref) (fun i H2 => Same H H2 ∧ H2 D = some (.lst ((((ns.map (net hs)).take i).map is0).map V.bl))) ⟨upd_new hD, upd_same⟩ (fun i H2 _ z => SqT.of (z.1 _ _ h5)) ?_ ?_
  · rintro i x H2 hx ⟨s2, h2D⟩
    obtain ⟨b, eb, rfl⟩ := map_at hx
    obtain ⟨z, ez, hb⟩ := h6.get eb
    have li := (List.getElem?_eq_some_iff.mp ez).1
    rw [List.length_map] at li
    obtain ⟨db, b1⟩ := id (hb.same s2)
    refine ⟨rfl, yes_of ⟨_, rfl, b, db, _, rfl, b1, b, z, rfl, hb.same s2, rfl, _, h2D, ?_, same_upd hD s2, ?_⟩⟩
    · rw [List.length_map, List.length_map, List.length_take, List.length_map]; omega
    · rw [upd_same, take_more ez, List.map_append, List.map_append]
      congr 3
      show [V.bl (decide (V.int (if z = 0 then 0 else if z > 0 then 1 else -1) = V.int 0))] = [V.bl (is0 z)]
      rw [decI]
      unfold is0
      by_cases e0 : z = 0
      · subst e0; rfl
      · rw [if_neg e0, decide_eq_false e0]
        by_cases e1 : z > 0
        · rw [if_pos e1]; rfl
        · rw [if_neg e1]; rfl
  · rintro H2 ⟨s2, h2D⟩
    rw [List.length_map, h6.1, List.take_length] at h2D
    refine ⟨D, _, rfl, SqL.of h2D, ?_⟩
    have e : ((ns.map (net hs)).map is0).all id = (ns.map (net hs)).all is0 := by rw [List.all_map]; rfl
    rw [e]
    exact q H2 s2
theorem ok_gain (G : Glob mg) (R : SwapF K CS) (RR : RatF K C) (SP : SignP P w K mg base C) (F : DefAt K "is_gainful" "Swap.is_gainful" sSGain f fd) : FnOk P w K mg base CX0 3 f fd ["self"] (spAllNets C CH CS ge0) := by
  obtain ⟨ps, fs, fds, PS_, bS, GS⟩ := SP.h
  have scG : FnScope ["self", "net"] ["self"] (defScope sSGain) := ⟨rfl, rfl, rfl, by decide +kernel, rfl, by decide +kernel, by decide +kernel⟩
  refine okN F scG (fun vs H Q E ⟨a, ns, hs, e, _⟩ => by rw [e]; rfl) (fun cdv A outer s H vs Q E hr ⟨a, ns, hs, e, ha, n6, q⟩ => ?_)
  subst e
  refine ⟨_, pss_one (ps_ret (pe_callB (cr_all rfl) (by rfl) G.all (by decide +kernel) (pa_cons
      (pe_lc (own := [("net", 1)]) (g := gName 1) (tt := tYes) rfl scG.nd (pi_tup (pe_fld (pv 0) rfl)) (blkOk_by (N := ["self", "net"]) (sc := defScope sSGain) (by decide +kernel))
        (fun _ _ _ _ _ => pg_name (i := 1) scG.nd rfl (Or.inl rfl)) (fun _ _ _ _ _ => pts_nil) (fun _ _ _ _ _ => pe_cmpR op_ge (pe_prop (E := E0) (pv 1) RR.cl PS_ GS hr bS .nil pass0 rfl) pe_int (nomark _))) pa_nil))), ?_⟩
  have sz : sizeLine = 16777216 := sizeLine_eq
  obtain ⟨dx, pp, ph, pn, as, nas, h1, h2, h3, h4, h5, h6⟩ := id ha
  refine ⟨_, rfl, a, CS, dx, _, _, rfl, h1, R.cl, R.nN, fs_n _ _ _, pn, rfl, ⟨_, SqT.of h5⟩, fun D hD => ?_⟩
  refine lc_tup (K := K) (a := pn) (xs := nas.map V.ref) (fun i H2 => Same H H2 ∧ H2 D = some (.lst ((((ns.map (net hs)).take i).map ge0).map V.bl))) ⟨upd_new hD, upd_same⟩ (fun i H2 _ z => SqT.of (z.1 _ _ h5)) ?_ ?_
  · rintro i x H2 hx ⟨s2, h2D⟩
    obtain ⟨b, eb, rfl⟩ := map_at hx
    obtain ⟨z, ez, hb⟩ := h6.get eb
    have li := (List.getElem?_eq_some_iff.mp ez).1
    rw [List.length_map] at li
    obtain ⟨db, b1⟩ := id (hb.same s2)
    refine ⟨rfl, yes_of ⟨_, rfl, b, db, _, rfl, b1, b, z, rfl, hb.same s2, _, _, rfl, rfl, _, h2D, ?_, same_upd hD s2, ?_⟩⟩
    · rw [List.length_map, List.length_map, List.length_take, List.length_map]; omega
    · rw [upd_same, take_more ez, List.map_append, List.map_append]
      congr 3
      show [V.bl (decide ((if z = 0 then (0 : Int) else if z > 0 then 1 else -1) ≥ 0))] = [V.bl (ge0 z)]
      unfold ge0
      by_cases e0 : z = 0
      · subst e0; rfl
      · rw [if_neg e0]
        by_cases e1 : z > 0
        · rw [if_pos e1, decide_eq_true (show (0 : Int) ≤ z by omega)]; rfl
        · rw [if_neg e1, decide_eq_false (show ¬ (0 : Int) ≤ z by omega)]; rfl
  · rintro H2 ⟨s2, h2D⟩
    rw [List.length_map, h6.1, List.take_length] at h2D
    refine ⟨D, _, rfl, SqL.of h2D, ?_⟩
    have e : ((ns.map (net hs)).map ge0).all id = (ns.map (net hs)).all ge0 := by rw [List.all_map]; rfl
    rw [e]
    exact q H2 s2
theorem ok_priced (G : Glob mg) (R : SwapF K CS) (RH : HandF K CH) (RR : RatF K C) (OE : EqO P w K mg base C 1 (spREq C)) (F : DefAt K "is_even_priced" "Swap.is_even_priced" sSPriced f fd) : FnOk P w K mg base CX0 3 f fd ["self"] (spPriced C CH CS) := by
  obtain ⟨fe, fde, ME, bE, GE⟩ := OE.o.h
  have scG : FnScope ["self", "hand"] ["self"] (defScope sSPriced) := ⟨rfl, rfl, rfl, by decide +kernel, rfl, by decide +kernel, by decide +kernel⟩
  refine okN F scG (fun vs H Q E ⟨a, ns, hs, e, _⟩ => by rw [e]; rfl) (fun cdv A outer s H vs Q E hr ⟨a, ns, hs, e, ha, l100, q⟩ => ?_)
  subst e
  refine ⟨_, pss_one (ps_ret (pe_callB (cr_all rfl) (by rfl) G.all (by decide +kernel) (pa_cons
      (pe_lc (own := [("hand", 1)]) (g := gName 1) (tt := tYes) rfl scG.nd (pi_tup (pe_fld (pv 0) rfl)) (blkOk_by (N := ["self", "hand"]) (sc := defScope sSPriced) (by decide +kernel))
        (fun _ _ _ _ _ => pg_name (i := 1) scG.nd rfl (Or.inl rfl)) (fun _ _ _ _ _ => pts_nil) (fun _ _ _ _ _ => pe_cmpR (r := rEqO K C (spREq C) E0) (op_eqO (E := E0) ME GE (hr.mono (by decide)) bE pass0) (show PE _ _ (tFld K (tVar 1) "cost") from pe_fld (pv 1) rfl) (show PE _ _ (tFld K (tVar 1) "gain") from pe_fld (pv 1) rfl) (nomark _))) pa_nil))), ?_⟩
  have sz : sizeLine = 16777216 := sizeLine_eq
  obtain ⟨dx, pp, ph, pn, as, nas, h1, h2, h3, h4, h5, h6⟩ := id ha
  refine ⟨_, rfl, a, CS, dx, _, _, rfl, h1, R.cl, R.nH, fs_h _ _ _, ph, rfl, ⟨_, SqT.of h3⟩, fun D hD => ?_⟩
  refine lc_tup (K := K) (a := ph) (xs := as.map V.ref) (fun i H2 => Same H H2 ∧ H2 D = some (.lst (((hs.take i).map fun h => decide (h.c = h.d)).map V.bl))) ⟨upd_new hD, upd_same⟩ (fun i H2 _ z => SqT.of (z.1 _ _ h3)) ?_ ?_
  · rintro i x H2 hx ⟨s2, h2D⟩
    obtain ⟨b, eb, rfl⟩ := map_at hx
    obtain ⟨z, ez, hb⟩ := h4.get eb
    have li := (List.getElem?_eq_some_iff.mp ez).1
    obtain ⟨dy, pc, pd, b1, sc, sd⟩ := id (hb.same s2)
    obtain ⟨ec, c1⟩ := id sc
    obtain ⟨ed, d1⟩ := id sd
    refine ⟨rfl, yes_of ⟨_, rfl, b, CH, dy, _, _, rfl, b1, RH.cl, RH.nC, fh_c _ _ _ _, _, rfl, b, CH, dy, _, _, rfl, b1, RH.cl, RH.nD, fh_d _ _ _ _, pc, ec, _, _, rfl, c1, RR.ty d1, OE.nf, pc, pd, z.c, z.d, rfl, sc, sd, _, h2D, ?_, same_upd hD s2, ?_⟩⟩
    · rw [List.length_map, List.length_map, List.length_take]; omega
    · rw [upd_same, take_more ez, List.map_append, List.map_append]
      rfl
  · rintro H2 ⟨s2, h2D⟩
    rw [List.length_map, h4.1, List.take_length] at h2D
    refine ⟨D, _, rfl, SqL.of h2D, ?_⟩
    have e : (hs.map fun h => decide (h.c = h.d)).all id = hs.all fun h => decide (h.c = h.d) := by rw [List.all_map]; rfl
    rw [e]
    exact q H2 s2
theorem K2nd {ns : List Str} (nd : ns.Nodup) {i j : Nat} {x : Str} (a : ns[i]? = some x) (b : ns[j]? = some x) : i = j := by
  obtain ⟨h1, e1⟩ := List.getElem?_eq_some_iff.mp a
  obtain ⟨h2, e2⟩ := List.getElem?_eq_some_iff.mp b
  exact (List.getElem_inj nd).mp (e1.trans e2.symm)
def tyZ : V → Hp → Prop := fun x H => ∃ p xs, x = .ref p ∧ TupZ H p xs
theorem ty_tup {X : Cx} : TyOk X "tuple" tyZ := by
  intro pins σ H s x v I r ty
  obtain ⟨p, xs, rfl, o, h, od⟩ := ty
  cases r
  obtain ⟨e, _, its, _, oo, e2, cl, n, dt⟩ := (show s.heap.get? p = some o ∧ ObjOk X.prog X.w H s.heap p (.tup xs) from I.hok p _ h)
  rw [e] at e2
  cases e2
  exact ⟨⟨o, e, cl⟩, fun a ea => by cases ea; exact ⟨o, e, od⟩⟩
theorem scNetM : FnScope ["self", "name"] ["self", "name"] (defScope sSNet) := ⟨rfl, rfl, rfl, by decide +kernel, rfl, by decide +kernel, by decide +kernel⟩
theorem ok_net (R : SwapF K CS) (HS : HasStranger P w K mg base C CH CS CN) (F : DefAt K "net" "Swap.net" sSNet f fd) : FnOk P w K mg base (L2.CX P w) 4 f fd ["self", "name"] (spNet K C CH CS CN) := by
  obtain ⟨fs_, fds, mS, kS, bS, GS⟩ := HS.h
  refine okX F scNetM (fun vs H Q E ⟨a, v, ns, hs, e, _⟩ => by rw [e]; rfl) (fun cdv A outer s H vs Q E hr ⟨a, v, ns, hs, e, ha, nd, q⟩ => ?_)
  subst e
  have tk : Takes (cxOf (L2.CX P w) P w K mg base ["self", "name"] "Swap.net" (defScope sSNet) f cdv A outer s H E) (fun cls d _ H' => E cls d H') := takes_of rfl rfl rfl rfl
  have ps := passes_call tk (E := E) fun _ _ _ _ z => z
  refine ⟨_, pss_cons (ps_expr (pe_call GS hr rfl mS kS bS .nil ps (pa_cons (pv 0) (pa_cons (pv 1) pa_nil))))
    (pss_one (ps_ret (pe_ix ix_tup (pe_fld (pv 0) rfl) (pe_mG ty_tup PySem.F.plainAttrs_tuple PySem.F.slot_tuple_index PySem.F.type_tuple_index mt_tup_index (pe_fld (pv 0) rfl) (pa_cons (pv 1) pa_nil)) (fun _ _ => rfl)))), ?_⟩
  refine ⟨_, rfl, _, rfl, a, v, ns, hs, rfl, ha, q.goM (Same.refl H) fun n ev mem q2 H1 s1 => ?_⟩
  subst ev
  obtain ⟨dx, pp, ph, pn, as, nas, h1, h2, h3, h4, h5, h6⟩ := ha.same s1
  obtain ⟨j, ej⟩ := List.mem_iff_getElem?.mp mem
  obtain ⟨b, eb, hb⟩ := h6.getR (y := net hs n) (i := j) (by rw [List.getElem?_map, ej]; rfl)
  have lj := (List.getElem?_eq_some_iff.mp ej).1
  refine ⟨_, rfl, a, CS, dx, _, _, rfl, h1, R.cl, R.nN, fs_n _ _ _, _, rfl, a, CS, dx, _, _, rfl, h1, R.cl, R.nS, fs_s _ _ _, ⟨pp, _, rfl, h2⟩, _, rfl, pp, ns, n, j, rfl, rfl, h2.sq, ej, fun m hm em => ?_, pn, nas.map V.ref, _, _, rfl, rfl, SqT.of h5, atI_nat (j := j) (by rw [List.getElem?_map, eb]; rfl), q2 b H1 s1 hb⟩
  exact absurd (K2nd nd em ej) (by omega)
end
end K5

/-! k04: _law_turned. -/
namespace K5
open PySem PySem.Spec PyProof.Rows L2 LamX K1 K18 K4

theorem erase_map {α β : Type} (f : α → β) : ∀ (l : List α) (j : Nat), (l.map f).eraseIdx j = (l.eraseIdx j).map f
  | [], _ => rfl
  | _ :: _, 0 => rfl
  | a :: l, j + 1 => by
    show f a :: (l.map f).eraseIdx j = f a :: (l.eraseIdx j).map f
    rw [erase_map f l j]
theorem erase_perm {α : Type} : ∀ {l : List α} {j : Nat} {x : α}, l[j]? = some x → (x :: l.eraseIdx j).Perm l
  | [], _, _, h => by simp at h
  | a :: l, 0, x, h => by
    obtain rfl : a = x := by simpa using h
    exact List.Perm.refl _
  | a :: l, j + 1, x, h => by
    have z := erase_perm (l := l) (j := j) (x := x) (by simpa using h)
    exact (List.Perm.swap a x _).trans (z.cons a)
theorem seq_ix {j m : Nat} (h : j < m) : seqIndex? (j : Int) m = some j := by
  have e : (if (j : Int) < 0 then (j : Int) + m else j) = j := if_neg (by omega)
  show (if 0 ≤ (if (j : Int) < 0 then (j : Int) + m else j) && (if (j : Int) < 0 then (j : Int) + m else j) < m then some (if (j : Int) < 0 then (j : Int) + m else j).toNat else none) = some j
  rw [e]
  have d1 : decide ((0 : Int) ≤ (j : Int)) = true := decide_eq_true (by omega)
  have d2 : decide ((j : Int) < (m : Int)) = true := decide_eq_true (by omega)
  rw [d1, d2]
  simp
/-- a list or a tuple of numbers in a drawn order -/
def spTurned : Sp := fun vs H Q _ => ∃ (p c b : Addr) (ks : List Nat) (n : Nat), vs = [.ref p, .ref b] ∧ SqA H b (kV ks) ∧ b ≠ p ∧ ks.length ≤ 50 ∧ Pen H p c n ∧ n + 60 < 100000 ∧
  ∀ (d : Addr) (ms : List Nat) (H' : Hp), ms.Perm ks → SqA H' d (kV ms) → d ≠ p → Keep p H H' → Pen H' p c (n + ks.length + 1) → Q (.ref d) H'
section
variable {P : Program} {w : World} {K : PySem.W.Frag} {mg : Str → Option Value} {base : Heap} {f : Addr} {fd : FuncData}
abbrev nTurned : List Str := ["_law_pen_here", "_law_numbers", "_law_left", "_law_found", "_law_turn"]
theorem scTurned : FnScope nTurned ["_law_pen_here", "_law_numbers"] (defScope sTurned) := ⟨rfl, rfl, rfl, by decide +kernel, rfl, by decide +kernel, by decide +kernel⟩
theorem ok_turned (G : Glob mg) (HT : HasDraw P w K mg base) (F : DefAt K "_law_turned" "_law_turned" sTurned f fd) : FnOk P w K mg base CX0 2 f fd ["_law_pen_here", "_law_numbers"] spTurned := by
  obtain ⟨ft, fdt, mT, kT, bT, GT⟩ := HT.h
  refine okN F scTurned (fun vs H Q E ⟨p, c, b, ks, n, e, _⟩ => by rw [e]; rfl) (fun cdv A outer s H vs Q E hr ⟨p, c, b, ks, n, e, sq, bp, l50, pn, hn, q⟩ => ?_)
  subst e
  refine ⟨_, pss_cons (ps_par (i := 2) (j := 3) (by rfl) scTurned.nd rfl rfl (by decide) rfl rfl (pa_cons (pe_callTy call_list_of (by rfl) G.lst (by decide +kernel) (pa_cons (pv 1) pa_nil)) (pa_cons (pe_lst pa_nil) pa_nil)) (by rfl))
    (pss_cons (ps_for PassesOwn.never rfl (pi_range1 (by rfl) G.range (pa_cons (pe_callB (r := rLenA K) (call_lenA rfl) (by rfl) G.len PySem.boot_len (pa_cons (pv 2) pa_nil)) pa_nil)) (pg_name (i := 4) scTurned.nd rfl (Or.inl rfl))
      (pss_one (ps_expr (pe_bm PySem.F.plainAttrs_list PySem.F.slot_list_append PySem.F.type_list_append mt_append (pv 3) (pa_cons (pe_bm PySem.F.plainAttrs_list PySem.F.slot_list_pop PySem.F.type_list_pop mt_popAt (pv 2) (pa_cons (pe_call GT hr rfl mT kT bT .nil pass0 (pa_cons (pv 0) (pa_cons (pe_callB (r := rLenA K) (call_lenA rfl) (by rfl) G.len PySem.boot_len (pa_cons (pv 2) pa_nil)) pa_nil))) pa_nil)) pa_nil)))))
    (pss_one (ps_ret (pe_ifExp (pt_cmpR op_eq (pe_call GT hr rfl mT kT bT .nil pass0 (pa_cons (pv 0) (pa_cons pe_int pa_nil))) pe_int (nomark _)) (pv 3) (pe_callTy (r := rTupK K) (call_tupK rfl) (by rfl) G.tup (by decide +kernel) (pa_cons (pv 3) pa_nil)))))), ?_⟩
  have sz : sizeLine = 16777216 := sizeLine_eq
  refine ⟨_, rfl, b, _, rfl, sq.imp SqL.of SqT.of, fun dl nl => ⟨(by show 0 ≤ sizeLine; omega), fun df nf => ⟨_, _, rfl, ?_⟩⟩⟩
  have s1 := upd_new (o := .lst (kV ks)) nl
  have h1 : upd H dl (.lst (kV ks)) dl = some (.lst (kV ks)) := upd_same
  generalize upd H dl (.lst (kV ks)) = H1 at s1 h1 nf ⊢
  have s2 := upd_new (o := .lst []) nf
  have h2 : upd H1 df (.lst []) df = some (.lst []) := upd_same
  generalize upd H1 df (.lst []) = H2 at s2 h2 ⊢
  have s12 := s1.trans s2
  have nlf : dl ≠ df := ne_of_none h1 nf
  have nfH : H df = none := s1.free nf
  obtain ⟨lp, lc⟩ := pn.ne nl
  obtain ⟨fp, fc⟩ := pn.ne nfH
  refine ⟨_, rfl, dl, _, rfl, .inl (SqL.of (s2 _ _ h1)), (ks.length : Int), by rw [kV_len], by omega, by omega, ?_⟩
  refine for_range (lo := 0) (n := ((ks.length : Nat) : Int).toNat) (fun i σ H3 => ∃ (z4 : Option V) (ls fs : List Nat), σ = [some (.ref p), some (.ref b), some (.ref dl), some (.ref df), z4] ∧ H3 dl = some (.lst (kV ls)) ∧ H3 df = some (.lst (kV fs)) ∧ (fs ++ ls).Perm ks ∧ fs.length = i ∧ Keep p H H3 ∧ Pen H3 p c (n + i))
    ⟨none, ks, [], rfl, s2 _ _ h1, h2, List.Perm.refl _, rfl, theKeep s12, pn.same s12⟩ ?_ ?_
  · rintro i σ H3 hi ⟨z4, ls, fs, rfl, hl, hf, pm, lf, k3, pn3⟩
    have hi2 : i < ks.length := by omega
    have tot := pm.length_eq
    rw [List.length_append] at tot
    refine ⟨_, rfl, .inl ⟨rfl, _, SqL.of hf⟩, _, rfl, .inl ⟨rfl, _, SqL.of hl⟩, _, rfl, _, rfl, dl, _, rfl, .inl (SqL.of hl), p, c, _, _, rfl, pn3, by omega, by rw [kV_len]; omega, by rw [kV_len]; omega, fun r H4 r0 r1 k4 pn4 => ?_⟩
    rw [kV_len] at r1
    obtain ⟨j, rfl⟩ := Int.eq_ofNat_of_zero_le r0
    have hj : j < ls.length := by omega
    have hl4 := k4 _ _ (Ne.symm lp) hl
    have hf4 := k4 _ _ (Ne.symm fp) hf
    have ej : ls[j]? = some ls[j] := List.getElem?_eq_getElem hj
    refine ⟨dl, kV ls, (j : Int), j, .int (ls[j] : Nat), rfl, rfl, hl4, by omega, by omega, ?_, by unfold kV; rw [List.getElem?_map, ej]; rfl, ?_⟩
    · exact seq_ix (by rw [kV_len]; exact hj)
    have hf5 : upd H4 dl (.lst ((kV ls).eraseIdx j)) df = some (.lst (kV fs)) := by rw [upd_ne (Ne.symm nlf)]; exact hf4
    refine ⟨df, kV fs, _, rfl, rfl, hf5, by rw [kV_len]; omega, _, ls.eraseIdx j, fs ++ [ls[j]], rfl, ?_, by rw [upd_same, kV_app], ?_, by rw [List.length_append, lf]; rfl, ?_, ?_⟩
    · rw [upd_ne nlf, upd_same]
      congr 2
      exact erase_map _ ls j
    · rw [List.append_assoc]
      refine List.Perm.trans (List.Perm.append_left fs ?_) pm
      exact erase_perm ej
    · intro o u no e
      rw [upd_ne (ne_of_none e nfH), upd_ne (ne_of_none e nl)]
      exact k4 _ _ no (k3 _ _ no e)
    · exact ((pn4.upd lp lc).upd fp fc).mono (by omega)
  · rintro σ H3 ⟨z4, ls, fs, rfl, hl, hf, pm, lf, k3, pn3⟩
    have tot := pm.length_eq
    rw [List.length_append] at tot
    have l0 : ls = [] := List.length_eq_zero_iff.mp (by omega)
    subst l0
    rw [List.append_nil] at pm
    refine ⟨_, rfl, p, c, 2, _, rfl, pn3, by omega, by decide, by decide, fun r H4 r0 r1 k4 pn4 => ⟨rfl, decide (r = 0), by rw [decI], ?_⟩⟩
    have hf4 := k4 _ _ (Ne.symm fp) hf
    by_cases e : r = 0
    · rw [decide_eq_true e]
      exact iteT ⟨_, rfl, q df fs H4 pm (.inl hf4) (Ne.symm fp) (k3.trans k4) (pn4.mono (by omega))⟩
    · rw [decide_eq_false e]
      refine iteF ⟨_, rfl, df, _, rfl, .inl ⟨SqL.of hf4, fun t nt => ?_⟩⟩
      have s5 := upd_new (o := .tup (kV fs)) nt
      exact q t fs _ pm (.inr upd_same) (Ne.symm (pn4.ne nt).1) (k3.trans (k4.trans (theKeep s5))) ((pn4.same s5).mono (by omega))
end
end K5

/-! k04: rows picked; what stays while the pen turns. -/
namespace K5
open PySem PySem.Spec PyProof.Rows L2 LamX K1 K18

/-! ### rows picked -/
def pickR (rs : List Row) (ks : List Nat) : List Row := ks.filterMap fun k => rs[k]?
theorem pickR_more {rs : List Row} {ks : List Nat} {k : Nat} (h : k < rs.length) : pickR rs (ks ++ [k]) = pickR rs ks ++ [rs[k]] := by
  unfold pickR
  rw [List.filterMap_append, List.filterMap_cons, List.getElem?_eq_getElem h]; rfl
theorem pickR_len (rs : List Row) (ks : List Nat) : (pickR rs ks).length ≤ ks.length := List.length_filterMap_le _ _
theorem pickR_ok {m : Nat} {rs : List Row} {ks : List Nat} (ok : ∀ r ∈ rs, RwOk m r) : ∀ r ∈ pickR rs ks, RwOk m r := fun r hr => by
  obtain ⟨i, _, e⟩ := List.mem_filterMap.mp hr
  exact ok r (List.mem_of_getElem? e)
theorem effs_line {ns : List Str} (nd : ns.Nodup) {rs : List Row} (ok : ∀ r ∈ rs, RwOk ns.length r) {ks : List Nat} (lt : ∀ k ∈ ks, k < rs.length) : ns.map (effs (rs.map (mkH ns)) ks) = lineF ns.length (pickR rs ks) := by
  refine List.ext_getElem? fun j => ?_
  unfold lineF
  rw [List.getElem?_map, List.getElem?_map]
  by_cases hj : j < ns.length
  · rw [getD_at hj, List.getElem?_range hj, Option.map_some, Option.map_some]
    congr 1
    unfold effs
    induction ks with
    | nil => rfl
    | cons k ks ih =>
      have hk := lt k List.mem_cons_self
      rw [List.map_cons, List.sum_cons, ih fun x hx => lt x (List.mem_cons_of_mem _ hx)]
      unfold pickR
      rw [List.filterMap_cons, List.getElem?_map, List.getElem?_eq_getElem hk]
      rw [List.map_cons, List.sum_cons, ← eff_row nd (ok _ (List.getElem_mem hk)) hj]
      rfl
  · rw [List.getElem?_eq_none (by omega), List.getElem?_eq_none (by rw [List.length_range]; omega)]; rfl
theorem Keep.hands {C CH : Addr} {H H' : Hp} {p c : Addr} {n : Nat} {as : List Addr} {hs : List Hnd} (pn : Pen H p c n) (k : Keep p H H') (h : Hands C CH H as hs) : Hands C CH H' as hs := h.mono fun _ _ z => z.keepP pn k
theorem SwAt.keepP {C CH CS : Addr} {H H' : Hp} {a p c : Addr} {n : Nat} {ns : List Str} {hs : List Hnd} (pn : Pen H p c n) (k : Keep p H H') (h : SwAt C CH CS H a ns hs) : SwAt C CH CS H' a ns hs := by
  obtain ⟨dx, ps, ph, pq, as, nas, h1, h2, h3, h4, h5, h6⟩ := h
  obtain ⟨cs, t, r, x, _⟩ := id pn
  exact ⟨dx, ps, ph, pq, as, nas, k _ _ (ne_of h1 x (fun z => nomatch z)) h1, (let ⟨o, z, d⟩ := h2; ⟨o, k _ _ (ne_of z x (fun z => nomatch z)) z, d⟩), k _ _ (ne_of h3 x (fun z => nomatch z)) h3, Keep.hands pn k h4, k _ _ (ne_of h5 x (fun z => nomatch z)) h5, h6.mono fun _ _ z => Six.keepP pn k z⟩
theorem gave_row {ns : List Str} (nd : ns.Nodup) {rs : List Row} (ok : ∀ r ∈ rs, RwOk ns.length r) {ks : List Nat} {j : Nat} (hj : j < ns.length) : gaveF (rs.map (mkH ns)) ks (ns.getD j "") = (((pickR rs ks).filter fun r => decide (r.g = j)).map Row.c).sum := by
  unfold gaveF
  have e : (ks.filterMap fun k => (rs.map (mkH ns))[k]?) = (pickR rs ks).map (mkH ns) := by
    unfold pickR
    rw [List.map_filterMap]
    congr 1
    funext k
    rw [List.getElem?_map]
  rw [e, List.filter_map, List.map_map]
  have f : ∀ r ∈ pickR rs ks, ((fun h : Hnd => decide (h.g = ns.getD j "")) ∘ mkH ns) r = decide (r.g = j) := fun r hr => by
    have k := pickR_ok ok r hr
    exact decide_eq_decide.mpr ⟨fun e => getD_inj nd k.g hj e, fun e => by rw [← e]; rfl⟩
  rw [List.filter_congr f]
  rfl
theorem took_row {ns : List Str} (nd : ns.Nodup) {rs : List Row} (ok : ∀ r ∈ rs, RwOk ns.length r) {ks : List Nat} {j : Nat} (hj : j < ns.length) : tookF (rs.map (mkH ns)) ks (ns.getD j "") = (((pickR rs ks).filter fun r => decide (r.t = j)).map Row.d).sum := by
  unfold tookF
  have e : (ks.filterMap fun k => (rs.map (mkH ns))[k]?) = (pickR rs ks).map (mkH ns) := by
    unfold pickR
    rw [List.map_filterMap]
    congr 1
    funext k
    rw [List.getElem?_map]
  rw [e, List.filter_map, List.map_map]
  have f : ∀ r ∈ pickR rs ks, ((fun h : Hnd => decide (h.t = ns.getD j "")) ∘ mkH ns) r = decide (r.t = j) := fun r hr => by
    have k := pickR_ok ok r hr
    exact decide_eq_decide.mpr ⟨fun e => getD_inj nd k.t hj e, fun e => by rw [← e]; rfl⟩
  rw [List.filter_congr f]
  rfl
theorem sum_smr {ss : List Int} (l : ss.length ≤ 60) (h : ∀ s ∈ ss, s.natAbs < 2 ^ 50) : ss.sum.natAbs < 2 ^ 56 := by
  have key : ∀ ss : List Int, (∀ s ∈ ss, s.natAbs < 2 ^ 50) → ss.sum.natAbs ≤ ss.length * 2 ^ 50 := fun ss => by
    induction ss with
    | nil => intro _; simp
    | cons a r ih =>
      intro h
      have h1 := h a List.mem_cons_self
      have h2 := ih fun x hx => h x (List.mem_cons_of_mem _ hx)
      rw [List.sum_cons, List.length_cons]
      have := Int.natAbs_add_le a r.sum
      omega
  have := key ss h
  have : ss.length * 2 ^ 50 ≤ 60 * 2 ^ 50 := Nat.mul_le_mul_right _ l
  omega
end K5

/-! k04: _law_set_right. -/
namespace K5
open PySem PySem.Spec PyProof.Rows L2 LamX K1 K18 K4

def spSetR (C CH CS : Addr) : Sp := fun vs H Q _ => ∃ (p c a nm rw dn : Addr) (ns : List Str) (rs : List Row) (ks : List Nat) (n : Nat), vs = [.ref p, .ref a, .ref nm, .ref rw, .ref dn] ∧ Pen H p c n ∧ n + 70 < 100000 ∧ nm ≠ p ∧ rw ≠ p ∧ SwAt C CH CS H a ns (rs.map (mkH ns)) ∧ H nm = some (.lst (ns.map V.str)) ∧ 2 ≤ ns.length ∧ ns.length ≤ 6 ∧ ns.Nodup ∧ (∀ n ∈ ns, Nm n) ∧
  RwL H rw rs ∧ (∀ r ∈ rs, RwOk ns.length r) ∧ rs.length ≤ 10 ∧ TupN H dn ks ∧ ks.Pairwise (· < ·) ∧ (∀ k ∈ ks, k < rs.length) ∧ ∀ H', Keep p H H' → Pen H' p c (n + 20) → Q (.bl true) H'
abbrev nSetR : List Str := ["_law_pen_here", "_law_swap", "_law_names_here", "_law_rows_here", "_law_done", "_law_told", "_law_some", "_law_line_here", "_law_place", "_law_costs", "_law_gains", "_law_number", "_law_at", "_law_row"]
section
variable {P : Program} {w : World} {K : PySem.W.Frag} {mg : Str → Option Value} {base : Heap} {f C CH CS CW CD CI CT CN : Addr} {fd : FuncData}
abbrev HasTurned (P : Program) (w : World) (K : PySem.W.Frag) (mg : Str → Option Value) (base : Heap) : Prop := Has P w K mg base CX0 2 "_law_turned" ["_law_pen_here", "_law_numbers"] spTurned
abbrev HasRest (P : Program) (w : World) (K : PySem.W.Frag) (mg : Str → Option Value) (base : Heap) (C CH CS CW CD CI CT : Addr) : Prop := Has P w K mg base (L2.CX P w) 8 "rest" ["swap", "done"] (spRest K C CH CS CW CD CI CT)
abbrev HasSumsX (P : Program) (w : World) (K : PySem.W.Frag) (mg : Str → Option Value) (base : Heap) (C CH CS CW CD CI CT : Addr) : Prop := Has P w K mg base (L2.CX P w) 8 "sums" ["swap", "done"] (spSumsX K C CH CS CW CD CI CT)
abbrev HasOf (x : Str) (P : Program) (w : World) (K : PySem.W.Frag) (mg : Str → Option Value) (base : Heap) (C CH CS CW CD CI CT CN : Addr) (F : List Hnd → List Nat → Str → Int) : Prop := Has P w K mg base (L2.CX P w) 8 x ["swap", "done", "name"] (spOf K C CH CS CW CD CI CT CN F)
theorem scSetR : FnScope nSetR ["_law_pen_here", "_law_swap", "_law_names_here", "_law_rows_here", "_law_done"] (defScope sSetRight) := ⟨rfl, rfl, rfl, by decide +kernel, rfl, by decide +kernel, by decide +kernel⟩
theorem ok_setR (G : Glob mg) (R : SwapF K CS) (HT : HasDraw P w K mg base) (HU : HasTurned P w K mg base) (HN : HasLine P w K mg base) (HI : HasIs P w K mg base C) (HL : HasIsLine P w K mg base C) (HD : HasDoneSet P w K mg base C CH CS CW CD CI CT) (HR : HasRest P w K mg base C CH CS CW CD CI CT) (HS : HasSumsX P w K mg base C CH CS CW CD CI CT)
    (HO : HasOf "sum_of" P w K mg base C CH CS CW CD CI CT CN effs) (HG : HasOf "gave" P w K mg base C CH CS CW CD CI CT CN gaveF) (HK : HasOf "took" P w K mg base C CH CS CW CD CI CT CN tookF) (F : DefAt K "_law_set_right" "_law_set_right" sSetRight f fd) :
    FnOk P w K mg base CX0 10 f fd ["_law_pen_here", "_law_swap", "_law_names_here", "_law_rows_here", "_law_done"] (spSetR C CH CS) := by
  obtain ⟨ft, fdt, mT, kT, bT, GT⟩ := HT.h
  obtain ⟨fu, fdu, mU, kU, bU, GU⟩ := HU.h
  obtain ⟨fn, fdn, mN, kN, bN, GN⟩ := HN.h
  obtain ⟨fi, fdi, mI, kI, bI, GI⟩ := HI.h
  obtain ⟨fl, fdl, mL, kL, bL, GL⟩ := HL.h
  obtain ⟨fd_, fdd, mD, kD_, bD, GD⟩ := HD.h
  obtain ⟨fr, fdr, mR, kR, bR, GR⟩ := HR.h
  obtain ⟨fs, fds, mS, kS, bS, GS⟩ := HS.h
  obtain ⟨fo, fdo, mO, kO, bO, GO⟩ := HO.h
  obtain ⟨fg, fdg, mG, kG, bG, GG⟩ := HG.h
  obtain ⟨fk, fdk, mK, kK, bK, GK⟩ := HK.h
  refine okN F scSetR (fun vs H Q E ⟨p, c, a, nm, rw, dn, ns, rs, ks, n, e, _⟩ => by rw [e]; rfl) (fun cdv A outer s H vs Q E hr ⟨p, c, a, nm, rw, dn, ns, rs, ks, n, e, pn, hn, np, rp, ha, hnm, n2, n6, nd, nmo, rwl, ok, l10, hdn, asc, lt, q⟩ => ?_)
  subst e
  have hu64 : (A.deeper (envOfC "_law_set_right" (defScope sSetRight) s.heap.objs.size f cdv)).units + 64 < cLine := by have := hr.un; omega
  have r8 := hr.mono (show 8 ≤ 9 by decide)
  have r2 := hr.mono (show 2 ≤ 9 by decide)
  have r1 := hr.mono (show 1 ≤ 9 by decide)
  refine ⟨_, pss_cons (ps_par (i := 5) (j := 6) (by rfl) scSetR.nd rfl rfl (by decide) rfl rfl (pa_cons (pe_call GU r2 rfl mU kU bU .nil pass0 (pa_cons (pv 0) (pa_cons (pv 4) pa_nil))) (pa_cons
        (pe_lc (own := [("_law_number", 11)]) (g := gName 11) (tt := tYes) rfl scSetR.nd (pi_tup (pv 4)) (blkOk_by (N := nSetR) (sc := defScope sSetRight) (by decide +kernel)) (fun _ _ _ _ _ => pg_name (i := 11) scSetR.nd rfl (Or.inl rfl)) (fun _ _ _ _ _ => pts_nil) (fun _ _ _ _ _ => pe_ix (r := rIxL K) ix_list (pv 3) (pv 11) (fun _ _ => rfl))) pa_nil)) (by rfl))
    (pss_cons (ps_asg (pe_tup (pa_cons (pe_call GN r1 rfl mN kN bN .nil pass0 (pa_cons (pe_callB (r := rLenA K) (call_lenA rfl) (by rfl) G.len PySem.boot_len (pa_cons (pv 2) pa_nil)) (pa_cons (pv 6) pa_nil))) (pa_cons (pe_call GT r1 rfl mT kT bT .nil pass0 (pa_cons (pv 0) (pa_cons (pe_callB (r := rLenA K) (call_lenA rfl) (by rfl) G.len PySem.boot_len (pa_cons (pv 2) pa_nil)) pa_nil))) pa_nil))) (pg_tup (by rfl) (pgs_cons (pg_name (i := 7) scSetR.nd rfl (Or.inl rfl)) (pgs_cons (pg_name (i := 8) scSetR.nd rfl (Or.inr rfl)) pgs_nil))))
    (pss_cons (ps_if (PW.pt (pw_or (pt_cmpR (op_neD hu64) (pe_call (E := E0) GD (hr.mono (by decide)) rfl mD kD_ bD .nil passL (pa_cons (pv 1) (pa_cons (pv 5) pa_nil))) (pv 4) (nomark _)) (pw_or1 (pt_cmpR (op_neD hu64) (pe_call (E := E0) GR r8 rfl mR kR bR .nil passL (pa_cons (pv 1) (pa_cons (pv 5) pa_nil))) (pe_callTy (r := rTupK K) (call_tupK rfl) (by rfl) G.tup (by decide +kernel) (pa_cons
        (pe_lc (own := [("_law_at", 12)]) (g := gName 12) rfl scSetR.nd (pi_range1 (by rfl) G.range (pa_cons (pe_callB (r := rLenA K) (call_lenA rfl) (by rfl) G.len PySem.boot_len (pa_cons (pv 3) pa_nil)) pa_nil)) (blkOk_by (N := nSetR) (sc := defScope sSetRight) (by decide +kernel)) (fun _ _ _ _ _ => pg_name (i := 12) scSetR.nd rfl (Or.inl rfl)) (fun _ _ _ _ _ => pts_one (pt_cmpR (r := rIn K true) op_notIn_seq (pv 12) (pv 4) (by rfl))) (fun _ _ _ _ _ => pv 12)) pa_nil)) (nomark _))))) pss_dead pss_nil)
    (pss_cons (ps_if (PW.pt (pw_or (pt_not (pt_val (pe_call GL r2 rfl mL kL bL .nil pass0 (pa_cons (pe_call (E := E0) GS r8 rfl mS kS bS .nil passL (pa_cons (pv 1) (pa_cons (pv 5) pa_nil))) (pa_cons (pv 7) pa_nil))))) (pw_or1 (pt_not (pt_val (pe_call GI r1 rfl mI kI bI .nil pass0 (pa_cons (pe_call (E := E0) GO r8 rfl mO kO bO .nil passL (pa_cons (pv 1) (pa_cons (pv 5) (pa_cons (pe_ix ix_list (pv 2) (pv 8) (fun _ _ => rfl)) pa_nil)))) (pa_cons (pe_ix ix_list (pv 7) (pv 8) (fun _ _ => rfl)) pa_nil)))))))) pss_dead pss_nil)
    (pss_cons (ps_set (i := 9) scSetR.nd rfl (Or.inl rfl) (pe_callB (cr_sum rfl) (by rfl) G.sum (by decide +kernel) (pa_cons
        (pe_lc (own := [("_law_row", 13)]) (g := gName 13) rfl scSetR.nd (pi_list (pv 6)) (blkOk_by (N := nSetR) (sc := defScope sSetRight) (by decide +kernel)) (fun _ _ _ _ _ => pg_name (i := 13) scSetR.nd rfl (Or.inl rfl)) (fun _ _ _ _ _ => pts_one (pt_cmpR (r := rEq) op_eq (pe_ix (r := rIxT K) ix_tup (pv 13) pe_int (fun _ _ => rfl)) (pv 8) (nomark _))) (fun _ _ _ _ _ => pe_ix (r := rIxT K) ix_tup (pv 13) pe_int (fun _ _ => rfl))) pa_nil)))
    (pss_cons (ps_set (i := 10) scSetR.nd rfl (Or.inl rfl) (pe_callB (cr_sum rfl) (by rfl) G.sum (by decide +kernel) (pa_cons
        (pe_lc (own := [("_law_row", 13)]) (g := gName 13) rfl scSetR.nd (pi_list (pv 6)) (blkOk_by (N := nSetR) (sc := defScope sSetRight) (by decide +kernel)) (fun _ _ _ _ _ => pg_name (i := 13) scSetR.nd rfl (Or.inl rfl)) (fun _ _ _ _ _ => pts_one (pt_cmpR (r := rEq) op_eq (pe_ix (r := rIxT K) ix_tup (pv 13) pe_int (fun _ _ => rfl)) (pv 8) (nomark _))) (fun _ _ _ _ _ => pe_ix (r := rIxT K) ix_tup (pv 13) pe_int (fun _ _ => rfl))) pa_nil)))
    (pss_one (ps_ret (pe_and (pe_call GI r1 rfl mI kI bI .nil pass0 (pa_cons (pe_call (E := E0) GG r8 rfl mG kG bG .nil passL (pa_cons (pv 1) (pa_cons (pv 5) (pa_cons (pe_ix ix_list (pv 2) (pv 8) (fun _ _ => rfl)) pa_nil)))) (pa_cons (pv 9) pa_nil)))
      (pe_one (pe_call GI r1 rfl mI kI bI .nil pass0 (pa_cons (pe_call (E := E0) GK r8 rfl mK kK bK .nil passL (pa_cons (pv 1) (pa_cons (pv 5) (pa_cons (pe_ix ix_list (pv 2) (pv 8) (fun _ _ => rfl)) pa_nil)))) (pa_cons (pv 10) pa_nil)))))))))))), ?_⟩
  have sz : sizeLine = 16777216 := sizeLine_eq
  have lk := nd_len (asc_nd asc) lt
  obtain ⟨pcs, pt, pr, hpp, _⟩ := id pn
  have dnp : dn ≠ p := ne_of hdn hpp (fun z => nomatch z)
  have okh : ∀ h ∈ rs.map (mkH ns), HnOk h := fun h hm => by
    obtain ⟨r, hr', rfl⟩ := List.mem_map.mp hm
    exact hnd_ok nd nmo (ok r hr')
  have lth : ∀ k ∈ ks, k < (rs.map (mkH ns)).length := fun k hk => by rw [List.length_map]; exact lt k hk
  have l50 : (rs.map (mkH ns)).length ≤ 50 := by rw [List.length_map]; omega
  have okp := pickR_ok (ks := ks) ok
  have lpk := pickR_len rs ks
  refine ⟨_, rfl, _, rfl, p, c, dn, ks, n, rfl, .inr hdn, dnp, by omega, pn, by omega, fun d ms H1 pm sq1 dp k1 pn1 => ?_⟩
  have hdn1 := k1 _ _ dnp hdn
  have rwl1 := RwL.keep pn rp k1 rwl
  obtain ⟨ras, hrw1, ral1⟩ := id rwl1
  refine ⟨_, rfl, dn, rfl, ⟨_, SqT.of hdn1⟩, fun D hD => ?_⟩
  refine lc_tup (K := K) (a := dn) (xs := kV ks) (fun i H2 => Same H1 H2 ∧ RwL H2 D (pickR rs (ks.take i))) ⟨upd_new hD, [], upd_same, .nil⟩ (fun i H2 _ z => SqT.of (z.1 _ _ hdn1)) ?_ ?_
  · rintro i x H2 hx ⟨s2, as, h2D, al⟩
    obtain ⟨k, ek, rfl⟩ := map_at hx
    have hk := lt k (List.mem_of_getElem? ek)
    have li := (List.getElem?_eq_some_iff.mp ek).1
    have er : rs[k]? = some rs[k] := List.getElem?_eq_getElem hk
    obtain ⟨ra, era, hra⟩ := ral1.getR er
    refine ⟨rfl, yes_of ⟨_, rfl, _, rfl, rw, ras.map V.ref, (k : Int), .ref ra, rfl, rfl, SqL.of (s2 _ _ hrw1), atI_nat (by rw [List.getElem?_map, era]; rfl), _, h2D, ?_, same_upd hD s2, as ++ [ra], by rw [upd_same, List.map_append]; rfl, ?_⟩⟩
    · have := pickR_len rs (ks.take i)
      rw [List.length_take] at this
      rw [List.length_map, al.1]; omega
    · rw [take_more ek, pickR_more hk]
      have up : ∀ {u : Addr} {v : Row}, RwAt H2 u v → ∀ o, RwAt (upd H2 D o) u v := fun z o => by
        show upd _ _ _ _ = _
        rw [upd_ne (ne_of z h2D (fun z => nomatch z))]; exact z
      exact All2.snoc (al.mono fun u v z => up z _) (up (s2 _ _ hra) _)
  rintro H2 ⟨s2, rD⟩
  rw [show (kV ks).length = ks.length from List.length_map _, List.take_length] at rD
  refine ⟨_, _, rfl, ?_⟩
  have k2 : Keep p H H2 := k1.trans (theKeep s2)
  have pn2 := pn1.same s2
  have hnm2 := k2 _ _ np hnm
  -- line, place
  refine ⟨_, rfl, nm, _, rfl, .inl (SqL.of hnm2), _, rfl, ns.length, D, pickR rs ks, by rw [List.length_map]; rfl, n6, rD, okp, by omega, fun dl H3 s3 ndl hdl => ?_⟩
  have hnm3 := s3 _ _ hnm2
  refine ⟨_, rfl, _, rfl, nm, _, rfl, .inl (SqL.of hnm3), p, c, _, _, rfl, pn2.same s3, by omega, by rw [List.length_map]; omega, by rw [List.length_map]; omega, fun pl H4 pl0 pl1 k4 pn4 => ⟨(by show 2 ≤ sizeLine; omega), fun T nT => ?_⟩⟩
  rw [List.length_map] at pl1
  obtain ⟨j, rfl⟩ := Int.eq_ofNat_of_zero_le pl0
  have hj : j < ns.length := by omega
  have s5 := upd_new (o := .tup [.ref dl, .int (j : Nat)]) nT
  have hT : upd H4 T (.tup [.ref dl, .int (j : Nat)]) T = some (.tup [.ref dl, .int (j : Nat)]) := upd_same
  generalize upd H4 T (.tup [.ref dl, .int (j : Nat)]) = H5 at s5 hT ⊢
  refine ⟨T, _, rfl, SqT.of hT, rfl, _, _, rfl, _, _, rfl, rfl, ?_⟩
  have k25 : Keep p H2 H5 := (theKeep s3).trans (k4.trans (theKeep s5))
  have k5 : Keep p H H5 := k2.trans k25
  have pn5 := pn4.same s5
  have ha5 := ha.keepP pn k5
  have hnm5 := k5 _ _ np hnm
  have hdn5 := k5 _ _ dnp hdn
  have rwl5 := RwL.keep pn rp k5 rwl
  have dlp : dl ≠ p := (pn2.ne ndl).1.symm
  have hdl5 : H5 dl = some (.lst ((lineF ns.length (pickR rs ks)).map V.int)) := s5 _ _ (k4 _ _ dlp hdl)
  have Dp : D ≠ p := (pn1.ne hD).1.symm
  have rD5 := RwL.keep pn2 Dp k25 rD
  have sq5 : SqA H5 d (kV ms) := by
    have z := sq1.same (s2.trans s3)
    rcases z with z | z
    · exact .inl (s5 _ _ (k4 _ _ dp z))
    · exact .inr (s5 _ _ (k4 _ _ dp z))
  show tSeq _ _ _ [some (V.ref p), some (.ref a), some (.ref nm), some (.ref rw), some (.ref dn), some (.ref d), some (.ref D), some (.ref dl), some (.int (j : Nat)), none, none, none, none, none] H5
  have good : GoodK (nI ms) (rs.map (mkH ns)).length ks := ⟨nI_perm pm, asc, lth⟩
  -- done_set
  refine ⟨_, rfl, _, rfl, .ref a, .ref d, rfl, .inr ⟨a, ns, _, rfl, ha5, by omega, handsW_good sq5 pm asc lth (by omega) fun js t H6 pj sj s6 ht => ?_⟩⟩
  obtain rfl := sorted_is (pj.trans (nI_perm pm)) sj asc
  rw [← kV_eq] at ht
  refine ⟨_, rfl, setD ks, setD ks, dp_set ht, dp_set (s6 _ _ hdn5), (sh_k ks).1, (sh_k ks).1, false, by rw [show PyData.eqv (setD ks) (setD ks) = _ from eqv_k ks ks]; simp, iteF ?_⟩
  -- rest
  refine ⟨_, rfl, _, rfl, .ref a, .ref d, rfl, .inr ⟨a, ns, _, rfl, ha5.same s6, okh, l50, n6, handsW_good (sq5.same s6) pm asc lth (by omega) ⟨ks, good, fun q7 H7 s7 hq7 => ?_⟩⟩⟩
  have s57 := s6.trans s7
  obtain ⟨ras5, hrw5, ral5⟩ := id rwl5
  have hdn7 := s57 _ _ hdn5
  refine ⟨_, rfl, rw, _, rfl, .inl (SqL.of (s57 _ _ hrw5)), (rs.length : Int), by rw [List.length_map, ral5.1], by omega, by omega, fun D2 hD2 => ?_⟩
  refine lc_range (lo := 0) (n := ((rs.length : Nat) : Int).toNat) (fun i H8 => Same H7 H8 ∧ H8 D2 = some (.lst (kV ((List.range i).filter fun n => !decide (n ∈ ks))))) ⟨upd_new hD2, upd_same⟩ ?_ ?_
  · rintro i H8 hi ⟨s8, hd8⟩
    have z0 : (0 : Int) + (i : Nat) = (i : Nat) := by omega
    have len : (kV ((List.range i).filter fun n => !decide (n ∈ ks))).length < sizeLine := by
      rw [kV_len]
      have := List.length_filter_le (fun n => !decide (n ∈ ks)) (List.range i)
      rw [List.length_range] at this
      have : i < rs.length := by omega
      omega
    refine ⟨rfl, _, rfl, _, rfl, dn, _, rfl, .inr (SqT.of (s8 _ _ hdn7)), rfl, flat_K ks, !decide (i ∈ ks), ?_, ?_⟩
    · show V.bl (!inV (.int ((0 : Int) + (i : Nat))) (kV ks)) = _
      rw [z0, inV_K]
    · have step : (List.range (i + 1)).filter (fun n => !decide (n ∈ ks)) = (List.range i).filter (fun n => !decide (n ∈ ks)) ++ if (!decide (i ∈ ks)) = true then [i] else [] := by
        rw [List.range_succ, List.filter_append, List.filter_cons, List.filter_nil]
      cases c : (!decide (i ∈ ks)) with
      | false =>
        rw [c] at step
        refine iteF ⟨s8, ?_⟩
        rw [step]
        simpa using hd8
      | true =>
        rw [c] at step
        refine iteT ⟨_, rfl, _, hd8, len, same_upd hD2 s8, ?_⟩
        rw [upd_same, step, z0, kV_app]
        simp
  rintro H8 ⟨s8, hd8⟩
  refine ⟨D2, _, rfl, .inl ⟨SqL.of hd8, fun q8 nq8 => ?_⟩⟩
  have s9 := upd_new (o := .tup (kV (others rs.length ks))) nq8
  have hq8 : upd H8 q8 (.tup (kV (others rs.length ks))) q8 = some (.tup (kV (others rs.length ks))) := upd_same
  show rNeD K _ _ (upd H8 q8 (.tup (kV (others rs.length ks)))) _
  generalize upd H8 q8 (.tup (kV (others rs.length ks))) = H9 at s9 hq8 ⊢
  have s79 := s8.trans s9
  rw [List.length_map] at hq7
  refine ⟨setD (others rs.length ks), setD (others rs.length ks), dp_set (s79 _ _ hq7), dp_set hq8, (sh_k _).1, (sh_k _).1, false, by rw [show PyData.eqv (setD (others rs.length ks)) (setD (others rs.length ks)) = _ from eqv_k _ _]; simp, iteF ?_⟩
  have s59 := s57.trans s79
  clear hd8 hD2
  -- sums
  refine ⟨_, rfl, _, rfl, .ref a, .ref d, rfl, .inr ⟨a, ns, _, rfl, ha5.same s59, okh, l50, n6, handsW_good (sq5.same s59) pm asc lth (by omega) ⟨ks, good, fun q10 qs H10 s10 hq10 al10 => ?_⟩⟩⟩
  have el := effs_line nd ok lt
  rw [el] at al10
  have s510 := s59.trans s10
  refine ⟨_, rfl, q10, dl, qs, lineF ns.length (pickR rs ks), rfl, hq10, al10, s510 _ _ hdl5, line_sm okp (by omega), by rw [line_len]; exact n6, fun H11 s11 => ⟨true, rfl, iteF ?_⟩⟩
  have s511 := s510.trans s11
  -- sum_of
  have nj : ns[j]? = some (ns.getD j "") := getD_at hj
  have mj : ns.getD j "" ∈ ns := getD_in hj
  have atn : atI (ns.map V.str) (j : Nat) = some (.str (ns.getD j "")) := atI_nat (by rw [List.getElem?_map, nj]; rfl)
  obtain ⟨z, ez⟩ : ∃ z, (lineF ns.length (pickR rs ks))[j]? = some z := ⟨_, List.getElem?_eq_getElem (by rw [line_len]; exact hj)⟩
  have ze : effs (rs.map (mkH ns)) ks (ns.getD j "") = z := by
    rw [← el, List.getElem?_map, nj] at ez
    exact Option.some.inj ez
  have zsm : z.natAbs < 2 ^ 56 := line_sm okp (by omega) z (List.mem_of_getElem? ez)
  refine ⟨_, rfl, _, rfl, _, rfl, _, rfl, nm, ns.map V.str, _, _, rfl, rfl, SqL.of (s511 _ _ hnm5), atn, .ref a, .ref d, .str (ns.getD j ""), rfl, .inr ⟨a, ns, _, rfl, ha5.same s511, okh, l50, n6, handsW_good (sq5.same s511) pm asc lth (by omega) ⟨ks, good, .inl ⟨_, rfl, nmo _ mj, mj, fun p12 H12 s12 six12 => ?_⟩⟩⟩⟩
  have s512 := s511.trans s12
  rw [ze] at six12
  refine ⟨_, rfl, _, rfl, dl, _, _, .int z, rfl, rfl, SqL.of (s512 _ _ hdl5), atI_nat (by rw [List.getElem?_map, ez]; rfl), p12, z, rfl, six12, zsm, true, rfl, iteF ?_⟩
  -- costs
  obtain ⟨asa, hDa, ala⟩ := id (rD5.same s512)
  refine ⟨_, rfl, D, rfl, ⟨_, SqL.of hDa⟩, fun Da nDa => ?_⟩
  refine lc_list (K := K) (a := D) (xs := asa.map V.ref) (fun i H' => Same H12 H' ∧ H' Da = some (.lst (((((pickR rs ks).take i).filter fun r => decide (r.g = j)).map Row.c).map V.int))) ⟨upd_new nDa, upd_same⟩ (fun i H' _ z => SqL.of (z.1 _ _ hDa)) ?_ ?_
  · rintro i x H' hx ⟨s', hd'⟩
    obtain ⟨ra, era, rfl⟩ := map_at hx
    obtain ⟨r, er, hra⟩ := ala.get era
    have li := (List.getElem?_eq_some_iff.mp er).1
    have hra' : H' ra = some (.tup (rV r)) := s' _ _ hra
    have a1 : atI (rV r) 0 = some (.int r.g) := atI_nat (j := 0) rfl
    have a2 : atI (rV r) 2 = some (.int r.c) := atI_nat (j := 2) rfl
    have step : ((pickR rs ks).take (i + 1)).filter (fun r => decide (r.g = j)) = ((pickR rs ks).take i).filter (fun r => decide (r.g = j)) ++ if decide (r.g = j) = true then [r] else [] := by
      rw [take_more er, List.filter_append, List.filter_cons, List.filter_nil]
    refine ⟨rfl, _, rfl, ra, rV r, _, _, rfl, rfl, SqT.of hra', a1, _, rfl, rfl, decide (r.g = j), ?_, ?_⟩
    · exact congrArg V.bl (decide_eq_decide.mpr ⟨fun e => by have e := V.int.inj e; omega, fun e => by rw [e]⟩)
    cases c : decide (r.g = j) with
    | false =>
      rw [c] at step
      refine iteF ⟨s', ?_⟩
      rw [step]
      simpa using hd'
    | true =>
      rw [c] at step
      refine iteT ⟨_, rfl, ra, rV r, _, _, rfl, rfl, SqT.of hra', a2, _, hd', ?_, same_upd nDa s', ?_⟩
      · rw [List.length_map, List.length_map]
        have := List.length_filter_le (fun r => decide (r.g = j)) ((pickR rs ks).take i)
        rw [List.length_take] at this
        omega
      · rw [upd_same, step, List.map_append, List.map_append]
        rfl
  rintro H13 ⟨sH13, hdH13⟩
  rw [List.length_map, ala.1, List.take_length] at hdH13
  refine ⟨Da, _, rfl, SqL.of hdH13, ?_⟩
  have s5H13 := s512.trans sH13
  -- gains
  obtain ⟨asb, hDb, alb⟩ := id (rD5.same s5H13)
  refine ⟨_, rfl, D, rfl, ⟨_, SqL.of hDb⟩, fun Db nDb => ?_⟩
  refine lc_list (K := K) (a := D) (xs := asb.map V.ref) (fun i H' => Same H13 H' ∧ H' Db = some (.lst (((((pickR rs ks).take i).filter fun r => decide (r.t = j)).map Row.d).map V.int))) ⟨upd_new nDb, upd_same⟩ (fun i H' _ z => SqL.of (z.1 _ _ hDb)) ?_ ?_
  · rintro i x H' hx ⟨s', hd'⟩
    obtain ⟨ra, era, rfl⟩ := map_at hx
    obtain ⟨r, er, hra⟩ := alb.get era
    have li := (List.getElem?_eq_some_iff.mp er).1
    have hra' : H' ra = some (.tup (rV r)) := s' _ _ hra
    have a1 : atI (rV r) 1 = some (.int r.t) := atI_nat (j := 1) rfl
    have a2 : atI (rV r) 3 = some (.int r.d) := atI_nat (j := 3) rfl
    have step : ((pickR rs ks).take (i + 1)).filter (fun r => decide (r.t = j)) = ((pickR rs ks).take i).filter (fun r => decide (r.t = j)) ++ if decide (r.t = j) = true then [r] else [] := by
      rw [take_more er, List.filter_append, List.filter_cons, List.filter_nil]
    refine ⟨rfl, _, rfl, ra, rV r, _, _, rfl, rfl, SqT.of hra', a1, _, rfl, rfl, decide (r.t = j), ?_, ?_⟩
    · exact congrArg V.bl (decide_eq_decide.mpr ⟨fun e => by have e := V.int.inj e; omega, fun e => by rw [e]⟩)
    cases c : decide (r.t = j) with
    | false =>
      rw [c] at step
      refine iteF ⟨s', ?_⟩
      rw [step]
      simpa using hd'
    | true =>
      rw [c] at step
      refine iteT ⟨_, rfl, ra, rV r, _, _, rfl, rfl, SqT.of hra', a2, _, hd', ?_, same_upd nDb s', ?_⟩
      · rw [List.length_map, List.length_map]
        have := List.length_filter_le (fun r => decide (r.t = j)) ((pickR rs ks).take i)
        rw [List.length_take] at this
        omega
      · rw [upd_same, step, List.map_append, List.map_append]
        rfl
  rintro H14 ⟨sH14, hdH14⟩
  rw [List.length_map, alb.1, List.take_length] at hdH14
  refine ⟨Db, _, rfl, SqL.of hdH14, ?_⟩
  have s5H14 := s5H13.trans sH14
  have sma : (((pickR rs ks).filter fun r => decide (r.g = j)).map Row.c).sum.natAbs < 2 ^ 56 := sum_smr (by have := List.length_filter_le (fun r => decide (r.g = j)) (pickR rs ks); rw [List.length_map]; omega) fun x hx => by
    obtain ⟨r, hr', rfl⟩ := List.mem_map.mp hx
    exact (okp r (List.mem_filter.mp hr').1).cs
  have smb : (((pickR rs ks).filter fun r => decide (r.t = j)).map Row.d).sum.natAbs < 2 ^ 56 := sum_smr (by have := List.length_filter_le (fun r => decide (r.t = j)) (pickR rs ks); rw [List.length_map]; omega) fun x hx => by
    obtain ⟨r, hr', rfl⟩ := List.mem_map.mp hx
    exact (okp r (List.mem_filter.mp hr').1).ds
  refine ⟨_, rfl, _, rfl, _, rfl, _, rfl, nm, ns.map V.str, _, _, rfl, rfl, SqL.of (s5H14 _ _ hnm5), atn, .ref a, .ref d, .str (ns.getD j ""), rfl, .inr ⟨a, ns, _, rfl, ha5.same s5H14, okh, l50, n6, handsW_good (sq5.same s5H14) pm asc lth (by omega) ⟨ks, good, .inl ⟨_, rfl, nmo _ mj, mj, fun p15 H15 s15 six15 => ?_⟩⟩⟩⟩
  rw [gave_row nd ok hj] at six15
  refine ⟨_, rfl, p15, _, rfl, six15, sma, true, rfl, iteT ?_⟩
  have s515 := s5H14.trans s15
  refine ⟨_, rfl, _, rfl, _, rfl, _, rfl, nm, ns.map V.str, _, _, rfl, rfl, SqL.of (s515 _ _ hnm5), atn, .ref a, .ref d, .str (ns.getD j ""), rfl, .inr ⟨a, ns, _, rfl, ha5.same s515, okh, l50, n6, handsW_good (sq5.same s515) pm asc lth (by omega) ⟨ks, good, .inl ⟨_, rfl, nmo _ mj, mj, fun p16 H16 s16 six16 => ?_⟩⟩⟩⟩
  rw [took_row nd ok hj] at six16
  refine ⟨_, rfl, p16, _, rfl, six16, smb, ?_⟩
  exact q H16 (k5.trans (theKeep (s515.trans s16))) ((pn5.same (s515.trans s16)).mono (by omega))
end
end K5

/-! k04: a part of a tuple, the whole of it too. -/
namespace K5
open PySem PySem.Spec PyProof.Rows L2 LamX K1 K18 K4 HT

section
variable {prog : Program} {w : World} {A : Around} {E : Value → Shared → Prop} {s : Shared}
/-- t[lo:hi], the whole of t: t itself -/
theorem item_whole {t z : Addr} {its : Array Value} {v1 v2 : Value} {lo hi : Option Int} {Q : Value → Shared → Prop} (tt : IsTup s.heap t its) (zz : s.heap.IsSliceOf z v1 v2 .none) (p1 : IsPart v1 lo) (p2 : IsPart v2 hi)
    (h0 : sIx its.size 0 lo = 0) (h1 : sIx its.size its.size hi = its.size) (q : Q (.ref t) s) : wpAny (model prog w) A (getItem (.ref t) (.ref z)) Q E s := by
  obtain ⟨oz, oz1, oz2, oz3⟩ := id zz
  obtain ⟨ot, ot1, ot2, ot3⟩ := id tt
  have ty2 : s.TypeIs (.ref z) "slice" := ⟨oz, oz1, oz2⟩
  unfold getItem
  try with_reducible refine wpAny_holding ?_
  first | refine wpAny_bind (wpAny_pure ?_) | skip
  refine wpAny_bind (wpAny_sequenceKey tt.typeIs (by decide) (wpAny_bind (wpAny_callSpecial?_slot (name := Str.ofString "__getitem__") tt.typeIs PyProof.Rows.slot_tuple_getitem (wpAny_call_entry PyProof.Rows.slot_tuple_getitem tt.typeIs entry_tuple_getitem ?_ (args_tuple_getitem _ _)))))
  show wpAny _ _ (Builtin.Tuple.tupleItemsOf (.ref t) >>= _) _ _ s
  refine wpAny_bind (tupleItemsOf_ tt (wpAny_bind (wpAny_typeOf ty2 ?_)))
  rw [if_pos (by decide)]
  refine wpAny_bind (sliceApplied_gen zz p1 p2 ?_)
  have yes : ((((sIx its.size 0 lo : Nat) : Int) == 0) && ((1 : Int) == 1) && ((sIx its.size its.size hi - sIx its.size 0 lo) == its.size)) = true := by
    rw [h0, h1]; simp
  show wpAny _ _ (if ((((sIx its.size 0 lo : Nat) : Int) == 0) && ((1 : Int) == 1) && ((sIx its.size its.size hi - sIx its.size 0 lo) == its.size)) = true then _ else _) _ _ s
  rw [if_pos yes]
  refine wpAny_bind (m := Builtin.Tuple.tupleIsExact (.ref t)) ?_
  unfold Builtin.Tuple.tupleIsExact
  refine wpAny_bind (wpAny_typeOf tt.typeIs (wpAny_pure ?_))
  rw [if_pos (by decide)]
  exact wpAny_bind (wpAny_rule (wpAny_pure ⟨_, rfl, wpAny_pure q⟩))
end
/-- .. any part -/
def rSlTA (K : PySem.W.Frag) : V → Option Int → Option Int → Hp → VK → Prop := fun x lo hi H Q => ∃ a xs, x = .ref a ∧ SqT K H a xs ∧
  ((sIx xs.length 0 lo = 0 ∧ sIx xs.length xs.length hi = xs.length ∧ Q (.ref a) H) ∨ rSlT K x lo hi H Q)
theorem sl_tupA {X : Cx} {K : PySem.W.Frag} (hK : X.K = K) : SlR X (rSlTA K) := by
  subst hK
  intro pins s σ H x v vl vu lo hi sl Q I rx hs pl pu ⟨a, xs, ex, hx, q⟩
  rcases q with ⟨h0, h1, q⟩ | q
  · subst ex
    cases rx
    obtain ⟨its, r, ht, hz⟩ := I.tuple hx
    have hlen : its.toArray.size = xs.length := by rw [List.size_toArray]; exact r.length.symm
    exact ⟨"tuple", _, PyProof.Rows.slot_tuple_getitem.lookup, ht.typeIs, item_whole ht hs pl pu (by rw [hlen]; exact h0) (by rw [hlen]; exact h1) ⟨.ref a, H, I, rfl, q⟩⟩
  · exact sl_tup pins s σ H x v vl vu lo hi sl Q I rx hs pl pu q
/-- the first j of a list or a tuple of numbers -/
def rSlA (K : PySem.W.Frag) : V → Option Int → Option Int → Hp → VK → Prop := fun x lo hi H Q => rSlL K x lo hi H Q ∨ rSlTA K x lo hi H Q
theorem sl_any {X : Cx} {K : PySem.W.Frag} (hK : X.K = K) : SlR X (rSlA K) := by
  subst hK
  exact sl_list.or (sl_tupA rfl)
theorem cut_first {ms : List Nat} {j : Nat} (h : j ≤ ms.length) : cutV (kV ms) none (some (j : Int)) = kV (ms.take j) := by
  unfold cutV
  rw [sIx_none, sIx_nat, List.drop_zero, Nat.sub_zero, kV_len, Nat.min_eq_left h]
  unfold kV
  rw [List.map_take]
theorem first_of {K : PySem.W.Frag} {H : Hp} {d : Addr} {ms : List Nat} {j : Nat} {Q : VK} (sq : SqA H d (kV ms)) (h : j ≤ ms.length) (q : ∀ e H', Same H H' → SqA H' e (kV (ms.take j)) → (e = d ∨ H e = none) → Q (.ref e) H') : rSlA K (.ref d) none (some (j : Int)) H Q := by
  rcases sq with sq | sq
  · exact .inl ⟨d, _, rfl, SqL.of sq, fun p np => q p _ (upd_new np) (.inl (by rw [upd_same, cut_first h])) (.inr np)⟩
  · refine .inr ⟨d, _, rfl, SqT.of sq, ?_⟩
    by_cases e : j = ms.length
    · refine .inl ⟨sIx_none _ _, by rw [sIx_nat, kV_len]; omega, q d H (Same.refl H) (.inr ?_) (.inl rfl)⟩
      rw [e, List.take_length]
      exact sq
    · refine .inr ⟨d, _, rfl, SqT.of sq, fun z => ?_, fun p np => q p _ (upd_new np) (.inr (by rw [upd_same, cut_first h])) (.inr np)⟩
      have z2 := z.2
      rw [sIx_nat, kV_len] at z2
      omega
end K5

/-! k04: _law_along_right. -/
namespace K5
open PySem PySem.Spec PyProof.Rows L2 LamX K1 K18 K4

def spAlR (C CH CS : Addr) : Sp := fun vs H Q _ => ∃ (p c a nm rw : Addr) (ns : List Str) (rs : List Row) (n : Nat), vs = [.ref p, .ref a, .ref nm, .ref rw] ∧ Pen H p c n ∧ n + 70 < 100000 ∧ nm ≠ p ∧ rw ≠ p ∧ SwAt C CH CS H a ns (rs.map (mkH ns)) ∧ H nm = some (.lst (ns.map V.str)) ∧ 2 ≤ ns.length ∧ ns.length ≤ 6 ∧ ns.Nodup ∧ (∀ n ∈ ns, Nm n) ∧
  RwL H rw rs ∧ (∀ r ∈ rs, RwOk ns.length r) ∧ rs.length ≤ 10 ∧ ∀ H', Keep p H H' → Pen H' p c (n + 20) → Q (.bl true) H'
/-- a generator def that is called by its name -/
structure HasG (P : Program) (w : World) (K : PySem.W.Frag) (mg : Str → Option Value) (base : Heap) (k : Nat) (x : Str) (ps : List Str) (sp : SpG) : Prop where
  h : ∃ f fd, mg x = some (.ref f) ∧ PySem.W.keepIn K (.ref f) = true ∧ Binds K fd ps [] ∧ GFn P w K mg base k f fd ps sp
theorem noStop0 {K : PySem.W.Frag} : NoStop K E0 := fun _ _ _ h => h.elim
theorem rg0 (m : Nat) : rgV 0 ((m : Nat) : Int) = kV (List.range m) := by
  unfold rgV kV
  simp
/-- different numbers, in any order -/
theorem handsW_nd {K : PySem.W.Frag} {CD CI CT : Addr} {H : Hp} {E : XK} {b : Addr} {ms : List Nat} {m : Nat} {part : V} {k : List Int → Addr → Prop} (sq : SqA H b (kV ms)) (nd : ms.Nodup) (lt : ∀ x ∈ ms, x < m) (l : ms.length ≤ 1000) (go : k (nI ms) b) : HandsW K CD CI CT (m : Nat) (.ref b) part H E k := by
  refine .inr ⟨b, nI ms, rfl, by rw [← kV_eq]; exact sq, by rw [List.length_map]; omega, fun i n hn bad _ => ?_, fun _ i n dup => ?_, fun _ _ => go⟩
  · obtain ⟨x, hx, rfl⟩ := map_at hn
    have := lt x (List.mem_of_getElem? hx)
    exact absurd ⟨by omega, by omega⟩ bad
  · obtain ⟨e, old, _⟩ := dup
    have z := (nI_nd nd).sublist (List.take_sublist (i + 1) (nI ms))
    rw [take_more e] at z
    exact absurd rfl ((List.nodup_append.mp z).2.2 n old n (by simp))
abbrev nAlR : List Str := ["_law_pen_here", "_law_swap", "_law_names_here", "_law_rows_here", "_law_order", "_law_lines", "_law_at", "_law_line_here", "_law_number"]
section
variable {P : Program} {w : World} {K : PySem.W.Frag} {mg : Str → Option Value} {base : Heap} {f C CH CS CW CD CI CT CN : Addr} {fd : FuncData}
theorem scAlR : FnScope nAlR ["_law_pen_here", "_law_swap", "_law_names_here", "_law_rows_here"] (defScope sAlongRight) := ⟨rfl, rfl, rfl, by decide +kernel, rfl, by decide +kernel, by decide +kernel⟩
theorem ok_alR (G : Glob mg) (R : SwapF K CS) (HT : HasDraw P w K mg base) (HU : HasTurned P w K mg base) (HN : HasLine P w K mg base) (HL : HasIsLine P w K mg base C) (HA : HasG P w K mg base 8 "along" ["swap", "numbers"] (spAlong K C CH CS CW CD CI CT)) (F : DefAt K "_law_along_right" "_law_along_right" sAlongRight f fd) :
    FnOk P w K mg base CX0 12 f fd ["_law_pen_here", "_law_swap", "_law_names_here", "_law_rows_here"] (spAlR C CH CS) := by
  obtain ⟨ft, fdt, mT, kT, bT, GT⟩ := HT.h
  obtain ⟨fu, fdu, mU, kU, bU, GU⟩ := HU.h
  obtain ⟨fn, fdn, mN, kN, bN, GN⟩ := HN.h
  obtain ⟨fl, fdl, mL, kL, bL, GL⟩ := HL.h
  obtain ⟨fa, fda, mA, kA, bA, GA⟩ := HA.h
  refine okN F scAlR (fun vs H Q E ⟨p, c, a, nm, rw, ns, rs, n, e, _⟩ => by rw [e]; rfl) (fun cdv A outer s H vs Q E hr ⟨p, c, a, nm, rw, ns, rs, n, e, pn, hn, np, rp, ha, hnm, n2, n6, nd, nmo, rwl, ok, l10, q⟩ => ?_)
  subst e
  have r8 := hr.mono (show 8 ≤ 11 by decide)
  have r2 := hr.mono (show 2 ≤ 11 by decide)
  have r1 := hr.mono (show 1 ≤ 11 by decide)
  refine ⟨_, pss_cons (ps_set (i := 4) scAlR.nd rfl (Or.inl rfl) (pe_call GU r2 rfl mU kU bU .nil pass0 (pa_cons (pv 0) (pa_cons (pe_listRg rfl (by rfl) G.lst (prg_1 (by rfl) G.range (pe_callB (r := rLenA K) (call_lenA rfl) (by rfl) G.len PySem.boot_len (pa_cons (pv 3) pa_nil)))) pa_nil))))
    (pss_cons (ps_set (i := 4) scAlR.nd rfl (Or.inl rfl) (pe_slice (r := rSlA K) (sl_any rfl) (pv 4) po_none (po_some (pe_call GT r1 rfl mT kT bT .nil pass0 (pa_cons (pv 0) (pa_cons (pe_op op_add (pe_callB (r := rLenA K) (call_lenA rfl) (by rfl) G.len PySem.boot_len (pa_cons (pv 3) pa_nil)) pe_int) pa_nil))))))
    (pss_cons (ps_set (i := 5) scAlR.nd rfl (Or.inl rfl) (pe_listG (k := 8) (E := E0) (pgen_call (E := E0) GA r8 rfl mA kA bA .nil (pa_cons (pv 1) (pa_cons (pv 4) pa_nil))) passL noStop0 hr (by rfl) G.lst (by decide +kernel)))
    (pss_cons (ps_if (pt_cmpR op_ne (pe_callB (r := rLenA K) (call_lenA rfl) (by rfl) G.len PySem.boot_len (pa_cons (pv 5) pa_nil)) (pe_op op_add (pe_callB (r := rLenA K) (call_lenA rfl) (by rfl) G.len PySem.boot_len (pa_cons (pv 4) pa_nil)) pe_int) (nomark _)) pss_dead pss_nil)
    (pss_cons (ps_for PassesOwn.never rfl (pi_enum (by rfl) G.enum (pa_cons (pv 5) pa_nil)) (pg_tup (by rfl) (pgs_cons (pg_name (i := 6) scAlR.nd rfl (Or.inl rfl)) (pgs_cons (pg_name (i := 7) scAlR.nd rfl (Or.inl rfl)) pgs_nil)))
      (pss_one (ps_if (pt_not (pt_val (pe_call GL r2 rfl mL kL bL .nil pass0 (pa_cons (pv 7) (pa_cons (pe_call GN r1 rfl mN kN bN .nil pass0 (pa_cons (pe_callB (r := rLenA K) (call_lenA rfl) (by rfl) G.len PySem.boot_len (pa_cons (pv 2) pa_nil)) (pa_cons
          (pe_lc (own := [("_law_number", 8)]) (g := gName 8) (tt := tYes) rfl scAlR.nd (pi_seq (pe_slice (r := rSlA K) (sl_any rfl) (pv 4) po_none (po_some (pv 6)))) (blkOk_by (N := nAlR) (sc := defScope sAlongRight) (by decide +kernel)) (fun _ _ _ _ _ => pg_name (i := 8) scAlR.nd rfl (Or.inl rfl)) (fun _ _ _ _ _ => pts_nil) (fun _ _ _ _ _ => pe_ix (r := rIxL K) ix_list (pv 3) (pv 8) (fun _ _ => rfl))) pa_nil))) pa_nil))))) pss_dead pss_nil)))
    (pss_one (ps_ret pe_bl)))))), ?_⟩
  have sz : sizeLine = 16777216 := sizeLine_eq
  obtain ⟨pcs, pt, pr, hpp, _⟩ := id pn
  have okh : ∀ h ∈ rs.map (mkH ns), HnOk h := fun h hm => by
    obtain ⟨r, hr', rfl⟩ := List.mem_map.mp hm
    exact hnd_ok nd nmo (ok r hr')
  have l50 : (rs.map (mkH ns)).length ≤ 50 := by rw [List.length_map]; omega
  obtain ⟨ras, hrw, ral⟩ := id rwl
  refine ⟨_, rfl, _, rfl, rw, _, rfl, .inl (SqL.of hrw), _, rfl, RgOk.of_le (by decide) (by rw [List.length_map, ral.1]; omega) (by decide) (by omega), fun l nl => ?_⟩
  have s1 := upd_new (o := .lst (rgV 0 (((ras.map V.ref).length : Nat) : Int))) nl
  have hl : upd H l (.lst (rgV 0 (((ras.map V.ref).length : Nat) : Int))) l = some (.lst (kV (List.range rs.length))) := by rw [upd_same, rg0, List.length_map, ral.1]
  have lp := (pn.ne nl).1.symm
  generalize upd H l (.lst (rgV 0 (((ras.map V.ref).length : Nat) : Int))) = H1 at s1 hl ⊢
  refine ⟨p, c, l, List.range rs.length, n, rfl, .inl hl, lp, by rw [List.length_range]; omega, pn.same s1, by omega, fun d ms H2 pm sq2 dp k2 pn2 => ?_⟩
  rw [List.length_range] at pn2
  have lm := pm.length_eq
  rw [List.length_range] at lm
  have ndm : ms.Nodup := pm.symm.nodup List.nodup_range
  have ltm : ∀ x ∈ ms, x < rs.length := fun x hx => List.mem_range.mp (pm.mem_iff.mp hx)
  have k02 : Keep p H H2 := (theKeep s1).trans k2
  have hrw2 := k02 _ _ rp hrw
  refine ⟨_, rfl, _, rfl, _, rfl, rw, _, rfl, .inl (SqL.of hrw2), _, _, rfl, rfl, p, c, _, _, rfl, pn2, by omega, by omega, by rw [List.length_map, ral.1]; omega, fun r H3 r0 r1 k3 pn3 => ?_⟩
  obtain ⟨j, rfl⟩ := Int.eq_ofNat_of_zero_le r0
  rw [List.length_map, ral.1] at r1
  have sq3 : SqA H3 d (kV ms) := by
    rcases sq2 with z | z
    · exact .inl (k3 _ _ dp z)
    · exact .inr (k3 _ _ dp z)
  refine ⟨_, rfl, ?_⟩
  refine first_of sq3 (by omega) fun e H4 s4 sq4 eo => ?_
  have k04 : Keep p H H4 := k02.trans (k3.trans (theKeep s4))
  have pn4 := pn3.same s4
  have ep : e ≠ p := by
    rcases eo with rfl | eo
    · exact dp
    · exact (pn3.ne eo).1.symm
  have ha4 := ha.keepP pn k04
  have lt' : ∀ k ∈ ms.take j, k < rs.length := fun k hk => ltm k (List.mem_of_mem_take hk)
  have lth : ∀ k ∈ ms.take j, k < (rs.map (mkH ns)).length := fun k hk => by rw [List.length_map]; exact lt' k hk
  have lj : (ms.take j).length = j := by rw [List.length_take]; omega
  dsimp only [gName]
  refine ⟨_, rfl, _, rfl, .ref a, .ref e, rfl, .inr ⟨a, ns, _, rfl, ha4, okh, l50, n6, handsW_nd sq4 (ndm.sublist (List.take_sublist _ _)) lth (by omega) ⟨ms.take j, rfl, lth, by omega, fun ps H5 s5 al5 g ng => ?_⟩⟩⟩
  have s6 := upd_new (o := .lst (ps.map V.ref)) ng
  have hg : upd H5 g (.lst (ps.map V.ref)) g = some (.lst (ps.map V.ref)) := upd_same
  have al6 := al5.mono fun x y z => LineAt.same s6 z
  generalize upd H5 g (.lst (ps.map V.ref)) = H6 at s6 hg al6 ⊢
  have s46 := s5.trans s6
  have lps := al5.1
  rw [show (lines ns (rs.map (mkH ns)) (ms.take j)).length = j + 1 by unfold lines; rw [List.length_map, List.length_range, lj]] at lps
  have sq6 := sq4.same s46
  refine ⟨_, rfl, g, _, rfl, .inl (SqL.of hg), _, rfl, e, _, rfl, sq6.imp SqL.of SqT.of, _, _, rfl, rfl, rfl, false, ?_, iteF ?_⟩
  · exact congrArg V.bl (by rw [List.length_map, lps, kV_len, lj, decI]; simp)
  have k06 : Keep p H H6 := k04.trans (theKeep s46)
  have pn6 := pn4.same s46
  have hrw6 := k06 _ _ rp hrw
  have hnm6 := k06 _ _ np hnm
  have ral6 : All2 (RwAt H6) ras rs := ral.mono fun x y z => k06 _ _ (ne_of z hpp (fun z => nomatch z)) z
  refine ⟨_, rfl, g, _, rfl, SqL.of hg, ?_⟩
  refine for_it (walk_enum (xs := ps.map V.ref)) (fun i σ H7 => ∃ z6 z7 : Option V, σ = [some (V.ref p), some (.ref a), some (.ref nm), some (.ref rw), some (.ref e), some (.ref g), z6, z7, none] ∧ Same H6 H7)
    ⟨none, none, rfl, Same.refl _⟩ (fun i σ H7 _ ⟨_, _, _, s7⟩ => SqL.of (s7 _ _ hg)) ?_ ?_
  · rintro i v σ H7 H8 hi ⟨z6, z7, rfl, s7⟩ ⟨T, x, y, rfl, nT, rfl, ex, ey⟩
    cases ex
    obtain ⟨q7, eq7, rfl⟩ := map_at ey
    obtain ⟨zs, ezs, lq⟩ := al6.get eq7
    have li := (List.getElem?_eq_some_iff.mp eq7).1
    have ez2 : zs = ns.map (effs (rs.map (mkH ns)) ((ms.take j).take i)) := by
      unfold lines at ezs
      rw [List.getElem?_map, List.getElem?_range (by rw [lj]; omega)] at ezs
      exact (Option.some.inj ezs).symm
    have lti : ∀ k ∈ (ms.take j).take i, k < rs.length := fun k hk => lt' k (List.mem_of_mem_take hk)
    rw [effs_line nd ok lti] at ez2
    subst ez2
    have s8 := upd_new (o := .tup [.int (i : Nat), .ref q7]) nT
    have hT : upd H7 T (.tup [.int (i : Nat), .ref q7]) T = some (.tup [.int (i : Nat), .ref q7]) := upd_same
    generalize upd H7 T (.tup [.int (i : Nat), .ref q7]) = H8 at s8 hT ⊢
    have s68 := s7.trans s8
    have okp := pickR_ok (ks := (ms.take j).take i) ok
    have lpk := pickR_len rs ((ms.take j).take i)
    have lti2 : ((ms.take j).take i).length ≤ j := by rw [List.length_take]; omega
    refine ⟨T, _, rfl, SqT.of hT, rfl, _, _, rfl, _, _, rfl, rfl, ?_⟩
    refine ⟨_, rfl, _, rfl, nm, _, rfl, .inl (SqL.of (s68 _ _ hnm6)), _, rfl, _, rfl, (i : Nat), rfl, ?_⟩
    refine first_of (sq6.same s68) (by rw [lj]; omega) fun e2 H9 s9 sq9 _ => ⟨e2, rfl, ?_⟩
    have s69 := s68.trans s9
    refine lc_seqA sq9 fun D hD => ⟨fun k H' => Same H9 H' ∧ RwL H' D (pickR rs (((ms.take j).take i).take k)), ⟨upd_new hD, [], upd_same, .nil⟩, fun k H' _ z => ?_, ?_, ?_⟩
    · obtain ⟨o, eo⟩ := sq9.there
      rw [eo, z.1 _ _ eo]
    · rintro k x H' hx ⟨s', as, hD', al'⟩
      obtain ⟨kk, ek, rfl⟩ := map_at hx
      have hk := lti kk (List.mem_of_getElem? ek)
      have er : rs[kk]? = some rs[kk] := List.getElem?_eq_getElem hk
      obtain ⟨ra, era, hra⟩ := ral6.getR er
      have s6' := s69.trans s'
      refine ⟨rfl, yes_of ⟨_, rfl, _, rfl, rw, ras.map V.ref, (kk : Int), .ref ra, rfl, rfl, SqL.of (s6' _ _ hrw6), atI_nat (by rw [List.getElem?_map, era]; rfl), _, hD', ?_, same_upd hD s', as ++ [ra], by rw [upd_same, List.map_append]; rfl, ?_⟩⟩
      · have := pickR_len rs (((ms.take j).take i).take k)
        rw [List.length_take] at this
        rw [List.length_map, al'.1]; omega
      · rw [take_more ek, pickR_more hk]
        have up : ∀ {u : Addr} {v : Row}, RwAt H' u v → ∀ o, RwAt (upd H' D o) u v := fun z o => by
          show upd _ _ _ _ = _
          rw [upd_ne (ne_of z hD' (fun z => nomatch z))]; exact z
        exact All2.snoc (al'.mono fun u v z => up z _) (up (s6' _ _ hra) _)
    · rintro H' ⟨s', rD⟩
      rw [show (kV ((ms.take j).take i)).length = ((ms.take j).take i).length from List.length_map _, List.take_length] at rD
      have s6' := s69.trans s'
      refine ⟨ns.length, D, pickR rs ((ms.take j).take i), by rw [List.length_map]; rfl, n6, rD, okp, by omega, fun dl H10 s10 ndl hdl => ?_⟩
      obtain ⟨qs, hq7, alq⟩ := lq.same (s6'.trans s10)
      exact ⟨q7, dl, qs, lineF ns.length (pickR rs ((ms.take j).take i)), rfl, hq7, alq, hdl, line_sm okp (by omega), by rw [line_len]; exact n6, fun H11 s11 => ⟨true, rfl, iteF ⟨_, _, rfl, (s6'.trans s10).trans s11⟩⟩⟩
  · rintro σ H7 ⟨z6, z7, rfl, s7⟩
    exact q H7 (k06.trans (theKeep s7)) ((pn6.same s7).mono (by omega))
end
end K5

/-! k04: _law_heard. -/
namespace K5
open PySem PySem.Spec PyProof.Rows L2 LamX K1 K18

/-- isinstance(error, c) -/
def kT (K : PySem.W.Frag) (a b : Addr) (r : Bool) : Prop := PySem.W.kitOne K (.ref a) (.ref b) = some r
/-- an error that is told -/
structure ErH (K : PySem.W.Frag) (mg : Str → Option Value) (x : Str) (C LE : Addr) : Prop where
  g : mg x = some (.ref C)
  e : ExcC K C
  le : PySem.W.exmOne K (.ref C) (.ref LE) = some true
theorem ErH.xf {K : PySem.W.Frag} {mg : Str → Option Value} {x : Str} {C LE : Addr} (h : ErH K mg x C LE) : XfC K C := ⟨h.e.hg, h.e.hk, h.e.hs, h.e.hd⟩
structure Hrd (K : PySem.W.Frag) (mg : Str → Option Value) (LE CW CD CI CT CU CM : Addr) : Prop where
  gl : mg "LastError" = some (.ref LE)
  w : ErH K mg "BadSwap" CW LE
  d : ErH K mg "BadDone" CD LE
  i : ErH K mg "NoHand" CI LE
  t : ErH K mg "Twice" CT LE
  u : ErH K mg "NoStranger" CU LE
  m : ErH K mg "TooMany" CM LE
  fw : PySem.W.findIn K (.ref CW) "part" = some none
  fd : PySem.W.findIn K (.ref CD) "part" = some none
  fi : PySem.W.findIn K (.ref CI) "number" = some none
  ft : PySem.W.findIn K (.ref CT) "value" = some none
  fu : PySem.W.findIn K (.ref CU) "name" = some none
  fm : PySem.W.findIn K (.ref CM) "what" = some none
  fo : PySem.W.findIn K (.ref CM) "most" = some none
  ww : kT K CW CW true
  dw : kT K CD CW false
  dd : kT K CD CD true
  iw : kT K CI CW false
  id : kT K CI CD false
  ii : kT K CI CI true
  tw : kT K CT CW false
  td : kT K CT CD false
  ti : kT K CT CI false
  tt : kT K CT CT true
  uw : kT K CU CW false
  ud : kT K CU CD false
  ui : kT K CU CI false
  ut : kT K CU CT false
  uu : kT K CU CU true
  mw : kT K CM CW false
  md : kT K CM CD false
  mi : kT K CM CI false
  mt : kT K CM CT false
  mu : kT K CM CU false
  mm : kT K CM CM true
/-- the pair that is told -/
def Tell (H : Hp) (x y : V) (Q : VK) : Prop := ∀ t H', Same H H' → H' t = some (.tup [x, y]) → Q (.ref t) H'
def HeardW (CW CD CI CT CU CM : Addr) (cls : Value) (d : Option Addr) (H : Hp) (Q : VK) : Prop := ∃ dd : Addr, d = some dd ∧
  ((∃ v, cls = .ref CW ∧ H dd = some (.xd [("part", v)]) ∧ Tell H (.str "swap") v Q) ∨ (∃ v, cls = .ref CD ∧ H dd = some (.xd [("part", v)]) ∧ Tell H (.str "done") v Q) ∨ (∃ v, cls = .ref CI ∧ H dd = some (.xd [("number", v)]) ∧ Tell H (.str "hand") v Q) ∨
   (∃ v, cls = .ref CT ∧ H dd = some (.xd [("value", v)]) ∧ Tell H (.str "twice") v Q) ∨ (∃ v, cls = .ref CU ∧ H dd = some (.xd [("name", v)]) ∧ Tell H (.str "stranger") v Q) ∨ (∃ v k, cls = .ref CM ∧ H dd = some (.xd [("most", k), ("what", v)]) ∧ Tell H v k Q))
def TTh (CW CD CI CT CU CM : Addr) : (XK → Hp → VK → Prop) → Hp → VK → Prop := fun tl H Q => ∀ (E : XK) (Q0 : VK), (∀ cls d H', HeardW CW CD CI CT CU CM cls d H' Q → E cls d H') → (∀ v H', Q .non H' → Q0 v H') → tl E H Q0
theorem pe_alt {X : Cx} {e : Expr} {t1 t2 : TE} (h1 : PE X e t1) (h2 : PE X e t2) : PE X e (fun σ H Q => t1 σ H Q ∨ t2 σ H Q) := ⟨fun pins s σ H Q I h => h.elim (h1.run pins s σ H Q I) (h2.run pins s σ H Q I)⟩
abbrev nHeard : List Str := ["_law_ask", "_law_heard_here", "error"]
theorem scHeard : FnScope nHeard ["_law_ask"] (defScope sHeard) := ⟨rfl, rfl, rfl, by decide +kernel, rfl, by decide +kernel, by decide +kernel⟩
theorem heard_gives {X : Cx} {g LE CW CD CI CT CU CM : Addr} {cdg : Value} {q : Str} (G : Glob X.mg) (B : Hrd X.K X.mg LE CW CD CI CT CU CM) :
    Gives1 X nHeard "_law_heard" (defScope sHeard) g cdg (defBody sHeard) "_law_ask" q (TTh CW CD CI CT CU CM) := by
  intro f c' s H Q tl act hc h
  refine ⟨_, pss_cons (ps_set (i := 1) scHeard.nd rfl (Or.inl rfl) pe_non) (pss_cons (ps_try_manyAs (X := (cxOf C8.CX0 X.prog X.w X.K X.mg X.base nHeard "_law_heard" (defScope sHeard) g cdg X.A X.stack s H C8.E0).nox) (i := 2) (n := "error") (l := [(.ref LE, _)])
      rfl rfl scHeard.nd rfl rfl LamX.takes0 (fun W pn xe tk _ => pss_one (ps_expr (act W pn xe _ _ tk)))
      (.cons ⟨rfl, by decide, .inl B.gl⟩ (fun a oe cls d pn hz hf => pss_cons (ps_set (i := 1) scHeard.nd rfl (Or.inl rfl) (pe_tup (pa_cons pe_str (pa_cons pe_non pa_nil))))
        (pss_one (ps_if (PW.pt (pw_or (pt_val (pe_callB (call_isD hz hf) (by rfl) G.isi (by decide +kernel) (pa_cons (pv 2) (pa_cons (pe_glob (v := .ref CW) rfl B.w.g rfl) pa_nil)))) (pw_or1 (pt_val (pe_callB (call_isD hz hf) (by rfl) G.isi (by decide +kernel) (pa_cons (pv 2) (pa_cons (pe_glob (v := .ref CD) rfl B.d.g rfl) pa_nil)))))))
          (pss_one (ps_set (i := 1) scHeard.nd rfl (Or.inl rfl) (pe_tup (pa_cons (pe_ifExp (pt_val (pe_callB (call_isD hz hf) (by rfl) G.isi (by decide +kernel) (pa_cons (pv 2) (pa_cons (pe_glob (v := .ref CW) rfl B.w.g rfl) pa_nil)))) pe_str pe_str) (pa_cons (pe_alt (pe_xf B.w.xf B.fw hz hf (pv 2)) (pe_xf B.d.xf B.fd hz hf (pv 2))) pa_nil)))))
          (pss_one (ps_if (pt_val (pe_callB (call_isD hz hf) (by rfl) G.isi (by decide +kernel) (pa_cons (pv 2) (pa_cons (pe_glob (v := .ref CI) rfl B.i.g rfl) pa_nil))))
            (pss_one (ps_set (i := 1) scHeard.nd rfl (Or.inl rfl) (pe_tup (pa_cons pe_str (pa_cons (pe_xf B.i.xf B.fi hz hf (pv 2)) pa_nil)))))
            (pss_one (ps_if (pt_val (pe_callB (call_isD hz hf) (by rfl) G.isi (by decide +kernel) (pa_cons (pv 2) (pa_cons (pe_glob (v := .ref CT) rfl B.t.g rfl) pa_nil))))
              (pss_one (ps_set (i := 1) scHeard.nd rfl (Or.inl rfl) (pe_tup (pa_cons pe_str (pa_cons (pe_xf B.t.xf B.ft hz hf (pv 2)) pa_nil)))))
              (pss_one (ps_if (pt_val (pe_callB (call_isD hz hf) (by rfl) G.isi (by decide +kernel) (pa_cons (pv 2) (pa_cons (pe_glob (v := .ref CU) rfl B.u.g rfl) pa_nil))))
                (pss_one (ps_set (i := 1) scHeard.nd rfl (Or.inl rfl) (pe_tup (pa_cons pe_str (pa_cons (pe_xf B.u.xf B.fu hz hf (pv 2)) pa_nil)))))
                (pss_one (ps_if (pt_val (pe_callB (call_isD hz hf) (by rfl) G.isi (by decide +kernel) (pa_cons (pv 2) (pa_cons (pe_glob (v := .ref CM) rfl B.m.g rfl) pa_nil))))
                  (pss_one (ps_set (i := 1) scHeard.nd rfl (Or.inl rfl) (pe_tup (pa_cons (pe_xf B.m.xf B.fm hz hf (pv 2)) (pa_cons (pe_xf B.m.xf B.fo hz hf (pv 2)) pa_nil)))))
                  pss_nil))))))))))) .nil))
    (pss_one (ps_ret (pv 1)))), ?_⟩
  have two : 2 ≤ sizeLine := by rw [sizeLine_eq]; omega
  refine ⟨rfl, hc, h _ _ (fun cls d H' fw => ?_) (fun v H' q => ⟨_, rfl, q⟩)⟩
  obtain ⟨dd, rfl, fw⟩ := fw
  rcases fw with ⟨v, rfl, hd, k⟩ | ⟨v, rfl, hd, k⟩ | ⟨v, rfl, hd, k⟩ | ⟨v, rfl, hd, k⟩ | ⟨v, rfl, hd, k⟩ | ⟨v, kk, rfl, hd, k⟩
  · refine ⟨true, B.w.le, fun _ a na => ?_, fun z => Bool.noConfusion z⟩
    refine ⟨two, fun t nt => ?_⟩
    have s1 := upd_new (o := .tup [V.str "other", .non]) nt
    have hd1 := s1 _ _ hd
    generalize upd H' t (.tup [V.str "other", .non]) = H1 at s1 hd1 ⊢
    refine ⟨_, rfl, CW, dd, _, _, .ref CW, true, rfl, rfl, hd1, B.w.e, rfl, fun u r => r, B.ww, true, rfl, iteT ⟨_, rfl, CW, dd, _, _, .ref CW, true, rfl, rfl, hd1, B.w.e, rfl, fun u r => r, B.ww, true, rfl, iteT (.inl ⟨_, rfl, rfl, rfl, dd, _, v, rfl, hd1, rfl, two, fun t2 nt2 => ⟨_, rfl, k t2 _ (s1.trans (upd_new nt2)) upd_same⟩⟩)⟩⟩
  · refine ⟨true, B.d.le, fun _ a na => ?_, fun z => Bool.noConfusion z⟩
    refine ⟨two, fun t nt => ?_⟩
    have s1 := upd_new (o := .tup [V.str "other", .non]) nt
    have hd1 := s1 _ _ hd
    generalize upd H' t (.tup [V.str "other", .non]) = H1 at s1 hd1 ⊢
    refine ⟨_, rfl, CD, dd, _, _, .ref CW, false, rfl, rfl, hd1, B.d.e, rfl, fun u r => r, B.dw, false, rfl, iteF ⟨_, rfl, CD, dd, _, _, .ref CD, true, rfl, rfl, hd1, B.d.e, rfl, fun u r => r, B.dd, true, rfl, iteT ⟨_, rfl, CD, dd, _, _, .ref CW, false, rfl, rfl, hd1, B.d.e, rfl, fun u r => r, B.dw, false, rfl, iteF (.inr ⟨_, rfl, rfl, rfl, dd, _, v, rfl, hd1, rfl, two, fun t2 nt2 => ⟨_, rfl, k t2 _ (s1.trans (upd_new nt2)) upd_same⟩⟩)⟩⟩⟩
  · refine ⟨true, B.i.le, fun _ a na => ?_, fun z => Bool.noConfusion z⟩
    refine ⟨two, fun t nt => ?_⟩
    have s1 := upd_new (o := .tup [V.str "other", .non]) nt
    have hd1 := s1 _ _ hd
    generalize upd H' t (.tup [V.str "other", .non]) = H1 at s1 hd1 ⊢
    refine ⟨_, rfl, CI, dd, _, _, .ref CW, false, rfl, rfl, hd1, B.i.e, rfl, fun u r => r, B.iw, false, rfl, iteF ⟨_, rfl, CI, dd, _, _, .ref CD, false, rfl, rfl, hd1, B.i.e, rfl, fun u r => r, B.id, false, rfl, iteF ⟨_, rfl, CI, dd, _, _, .ref CI, true, rfl, rfl, hd1, B.i.e, rfl, fun u r => r, B.ii, true, rfl, iteT ⟨_, rfl, rfl, rfl, dd, _, v, rfl, hd1, rfl, two, fun t2 nt2 => ⟨_, rfl, k t2 _ (s1.trans (upd_new nt2)) upd_same⟩⟩⟩⟩⟩
  · refine ⟨true, B.t.le, fun _ a na => ?_, fun z => Bool.noConfusion z⟩
    refine ⟨two, fun t nt => ?_⟩
    have s1 := upd_new (o := .tup [V.str "other", .non]) nt
    have hd1 := s1 _ _ hd
    generalize upd H' t (.tup [V.str "other", .non]) = H1 at s1 hd1 ⊢
    refine ⟨_, rfl, CT, dd, _, _, .ref CW, false, rfl, rfl, hd1, B.t.e, rfl, fun u r => r, B.tw, false, rfl, iteF ⟨_, rfl, CT, dd, _, _, .ref CD, false, rfl, rfl, hd1, B.t.e, rfl, fun u r => r, B.td, false, rfl, iteF ⟨_, rfl, CT, dd, _, _, .ref CI, false, rfl, rfl, hd1, B.t.e, rfl, fun u r => r, B.ti, false, rfl, iteF ⟨_, rfl, CT, dd, _, _, .ref CT, true, rfl, rfl, hd1, B.t.e, rfl, fun u r => r, B.tt, true, rfl, iteT ⟨_, rfl, rfl, rfl, dd, _, v, rfl, hd1, rfl, two, fun t2 nt2 => ⟨_, rfl, k t2 _ (s1.trans (upd_new nt2)) upd_same⟩⟩⟩⟩⟩⟩
  · refine ⟨true, B.u.le, fun _ a na => ?_, fun z => Bool.noConfusion z⟩
    refine ⟨two, fun t nt => ?_⟩
    have s1 := upd_new (o := .tup [V.str "other", .non]) nt
    have hd1 := s1 _ _ hd
    generalize upd H' t (.tup [V.str "other", .non]) = H1 at s1 hd1 ⊢
    refine ⟨_, rfl, CU, dd, _, _, .ref CW, false, rfl, rfl, hd1, B.u.e, rfl, fun u r => r, B.uw, false, rfl, iteF ⟨_, rfl, CU, dd, _, _, .ref CD, false, rfl, rfl, hd1, B.u.e, rfl, fun u r => r, B.ud, false, rfl, iteF ⟨_, rfl, CU, dd, _, _, .ref CI, false, rfl, rfl, hd1, B.u.e, rfl, fun u r => r, B.ui, false, rfl, iteF ⟨_, rfl, CU, dd, _, _, .ref CT, false, rfl, rfl, hd1, B.u.e, rfl, fun u r => r, B.ut, false, rfl, iteF ⟨_, rfl, CU, dd, _, _, .ref CU, true, rfl, rfl, hd1, B.u.e, rfl, fun u r => r, B.uu, true, rfl, iteT ⟨_, rfl, rfl, rfl, dd, _, v, rfl, hd1, rfl, two, fun t2 nt2 => ⟨_, rfl, k t2 _ (s1.trans (upd_new nt2)) upd_same⟩⟩⟩⟩⟩⟩⟩
  · refine ⟨true, B.m.le, fun _ a na => ?_, fun z => Bool.noConfusion z⟩
    refine ⟨two, fun t nt => ?_⟩
    have s1 := upd_new (o := .tup [V.str "other", .non]) nt
    have hd1 := s1 _ _ hd
    generalize upd H' t (.tup [V.str "other", .non]) = H1 at s1 hd1 ⊢
    refine ⟨_, rfl, CM, dd, _, _, .ref CW, false, rfl, rfl, hd1, B.m.e, rfl, fun u r => r, B.mw, false, rfl, iteF ⟨_, rfl, CM, dd, _, _, .ref CD, false, rfl, rfl, hd1, B.m.e, rfl, fun u r => r, B.md, false, rfl, iteF ⟨_, rfl, CM, dd, _, _, .ref CI, false, rfl, rfl, hd1, B.m.e, rfl, fun u r => r, B.mi, false, rfl, iteF ⟨_, rfl, CM, dd, _, _, .ref CT, false, rfl, rfl, hd1, B.m.e, rfl, fun u r => r, B.mt, false, rfl, iteF ⟨_, rfl, CM, dd, _, _, .ref CU, false, rfl, rfl, hd1, B.m.e, rfl, fun u r => r, B.mu, false, rfl, iteF ⟨_, rfl, CM, dd, _, _, .ref CM, true, rfl, rfl, hd1, B.m.e, rfl, fun u r => r, B.mm, true, rfl, iteT ⟨_, rfl, rfl, rfl, dd, _, v, rfl, hd1, rfl, _, rfl, rfl, rfl, dd, _, kk, rfl, hd1, rfl, two, fun t2 nt2 => ⟨_, rfl, k t2 _ (s1.trans (upd_new nt2)) upd_same⟩⟩⟩⟩⟩⟩⟩⟩
end K5

/-! k04: for _law_refused_right: what stays when tables grow; what is heard, item by item. -/
namespace K5
open PySem PySem.Spec PyProof.Rows L2 LamX K1 K18

theorem tabs_same {T : List (Addr × Str)} {H H' : Hp} (s : Same H H') (t : Tabs T H) : Tabs T H' := fun p hp => (t p hp).ext s
theorem Pen.tabs {T : List (Addr × Str)} {H H' : Hp} {p c : Addr} {n : Nat} (pn : Pen H p c n) (k : Keep p H H') (t : Tabs T H) : Tabs T H' := fun q hq => by
  obtain ⟨cs, tt, r, x, _⟩ := pn
  obtain ⟨ps, h1, h2, h3⟩ := t q hq
  refine ⟨ps, k _ _ (ne_of h1 x (by intro z; cases z)) h1, h2, fun pos cv hc => ?_⟩
  obtain ⟨c', e1, e2⟩ := h3 pos cv hc
  exact ⟨c', e1, k _ _ (ne_of e2 x (fun z => nomatch z)) e2⟩
theorem Same.extN {H H' : Hp} (s : Same H H') : ExtN H H' := fun b o e _ => s b o e
section
variable {K : PySem.W.Frag} {C CH CS : Addr} {H H' : Hp} {a : Addr}
theorem TupZ.extN {xs : List V} (x : ExtN H H') (h : TupZ H a xs) : TupZ H' a xs := let ⟨o, z1, z2⟩ := h; ⟨o, x _ _ z1 (fun _ z => nomatch z), z2⟩
theorem Six.extN {s : Int} (x : ExtN H H') (h : Six C H a s) : Six C H' a s := let ⟨dx, z⟩ := h; ⟨dx, x _ _ z (fun _ z => nomatch z)⟩
theorem HandAt.extN {h : Hnd} (x : ExtN H H') (k : HandAt C CH H a h) : HandAt C CH H' a h := let ⟨dx, pc, pd, z1, z2, z3⟩ := k; ⟨dx, pc, pd, x _ _ z1 (fun _ z => nomatch z), z2.extN x, z3.extN x⟩
theorem SwAt.extN {ns : List Str} {hs : List Hnd} (x : ExtN H H') (h : SwAt C CH CS H a ns hs) : SwAt C CH CS H' a ns hs :=
  let ⟨dx, ps, ph, pn, as, nas, h1, h2, h3, h4, h5, h6⟩ := h
  ⟨dx, ps, ph, pn, as, nas, x _ _ h1 (fun _ z => nomatch z), h2.extN x, x _ _ h3 (fun _ z => nomatch z), h4.mono fun _ _ z => z.extN x, x _ _ h5 (fun _ z => nomatch z), h6.mono fun _ _ z => z.extN x⟩
theorem RwL.extN {d : Addr} {rs : List Row} (x : ExtN H H') (h : RwL H d rs) : RwL H' d rs := let ⟨as, a, b⟩ := h; ⟨as, x _ _ a (fun _ z => nomatch z), b.mono fun _ _ z => x _ _ z (fun _ z => nomatch z)⟩
theorem TyOf.extN {v : V} {t : Value} (x : ExtN H H') (h : TyOf K H v t) : TyOf K H' v t := by
  cases h with
  | non => exact .non
  | bl b => exact .bl b
  | int i => exact .int i
  | str s => exact .str s
  | flt f => exact .flt f
  | lst e => exact .lst (x _ _ e (fun _ z => nomatch z))
  | frz e => exact .frz (x _ _ e (fun _ z => nomatch z))
  | tup e => exact .tup (x _ _ e (fun _ z => nomatch z))
  | dK e => exact .dK (x _ _ e (fun _ z => nomatch z))
  | dT e => exact .dT (x _ _ e (fun _ z => nomatch z))
  | ins e cl ha hn htk hm => exact .ins (x _ _ e (fun _ z => nomatch z)) cl ha hn htk hm
end
/-! ### odd values -/
structure OddF (K : PySem.W.Frag) (CS : Addr) : Prop where
  k : ∀ t ∈ oddT, PySem.W.kitOne K (.type t) (.ref CS) = some false
def OddV (K : PySem.W.Frag) (H : Hp) (v : V) : Prop := ∃ t ∈ oddT, TyOf K H v (.type t)
theorem OddV.notSw {K : PySem.W.Frag} {CS : Addr} {H : Hp} {v : V} (O : OddF K CS) (h : OddV K H v) : NotSw K CS H v := let ⟨t, m, ty⟩ := h; ⟨_, ty, O.k t m⟩
theorem OddV.extN {K : PySem.W.Frag} {H H' : Hp} {v : V} (x : ExtN H H') (h : OddV K H v) : OddV K H' v := let ⟨t, m, ty⟩ := h; ⟨t, m, TyOf.extN x ty⟩
/-- not a done set -/
def BadV (K : PySem.W.Frag) (H : Hp) (v : V) : Prop := NotSeq K H v ∨ ∃ a xs bs, v = .ref a ∧ SqA H a xs ∧ xs.length ≤ 1000 ∧ IBs K H xs bs ∧ bs.all id = false
theorem SqA.extN {H H' : Hp} {a : Addr} {xs : List V} (x : ExtN H H') (h : SqA H a xs) : SqA H' a xs := h.imp (fun z => x _ _ z fun _ z => nomatch z) fun z => x _ _ z fun _ z => nomatch z
theorem NotInt.extN {K : PySem.W.Frag} {H H' : Hp} {v : V} (x : ExtN H H') (h : NotInt K H v) : NotInt K H' v := let ⟨t, c, a, b⟩ := h; ⟨t, c, TyOf.extN x a, b⟩
theorem IBs.extN {K : PySem.W.Frag} {H H' : Hp} {xs : List V} {bs : List Bool} (x : ExtN H H') (h : IBs K H xs bs) : IBs K H' xs bs :=
  ⟨h.1, fun i y e => let ⟨b, e1, z⟩ := h.2 i y e; ⟨b, e1, z.imp id fun z => ⟨z.1, NotInt.extN x z.2⟩⟩⟩
theorem BadV.extN {K : PySem.W.Frag} {H H' : Hp} {v : V} (x : ExtN H H') (h : BadV K H v) : BadV K H' v := h.imp (fun ⟨t, ty, k⟩ => ⟨t, TyOf.extN x ty, k⟩) fun ⟨a, xs, bs, e, l, n, z1, z2⟩ => ⟨a, xs, bs, e, SqA.extN x l, n, IBs.extN x z1, z2⟩
theorem TyOf.keepP {K : PySem.W.Frag} {H H' : Hp} {p c : Addr} {n : Nat} {v : V} {t : Value} (pn : Pen H p c n) (k : Keep p H H') (np : v ≠ .ref p) (h : TyOf K H v t) : TyOf K H' v t := by
  have q : ∀ {a : Addr}, V.ref a ≠ .ref p → a ≠ p := fun z e => z (by rw [e])
  cases h with
  | non => exact .non
  | bl b => exact .bl b
  | int i => exact .int i
  | str s => exact .str s
  | flt f => exact .flt f
  | lst e => exact .lst (k _ _ (q np) e)
  | frz e => exact .frz (k _ _ (q np) e)
  | tup e => exact .tup (k _ _ (q np) e)
  | dK e => exact .dK (k _ _ (q np) e)
  | dT e => exact .dT (k _ _ (q np) e)
  | ins e cl ha hn htk hm => exact .ins (k _ _ (q np) e) cl ha hn htk hm
theorem OddV.keepP {K : PySem.W.Frag} {H H' : Hp} {p c : Addr} {n : Nat} {v : V} (pn : Pen H p c n) (k : Keep p H H') (np : v ≠ .ref p) (h : OddV K H v) : OddV K H' v := let ⟨t, m, ty⟩ := h; ⟨t, m, TyOf.keepP pn k np ty⟩
/-! ### what is heard -/
def It (H : Hp) (v : V) : Option (V × V) → Prop
  | some (x, y) => ∃ t, v = .ref t ∧ H t = some (.tup [x, y])
  | none => v = .non
theorem It.extN {H H' : Hp} {v : V} {o : Option (V × V)} (x : ExtN H H') (h : It H v o) : It H' v o := by
  cases o with
  | none => exact h
  | some p => exact let ⟨t, e, z⟩ := h; ⟨t, e, x _ _ z (fun _ z => nomatch z)⟩
theorem It.upd {H : Hp} {v : V} {o : Option (V × V)} {L : Addr} {xs : List V} {u : HO} (hL : H L = some (.lst xs)) (h : It H v o) : It (upd H L u) v o := by
  cases o with
  | none => exact h
  | some p => exact let ⟨t, e, z⟩ := h; ⟨t, e, by rw [upd_ne (ne_of z hL (fun z => nomatch z))]; exact z⟩
/-- so far, the list at L -/
structure Hd (T : List (Addr × Str)) (HA : Hp) (L : Addr) (os : List (Option (V × V))) (H : Hp) : Prop where
  ext : ExtN HA H
  tb : Tabs T H
  ne : ∀ b o, HA b = some o → (∀ ps, o ≠ .tbl ps) → b ≠ L
  l : ∃ vs, H L = some (.lst vs) ∧ All2 (It H) vs os
/-- a value of one kind or the other, the heap behind it -/
def One (T : List (Addr × Str)) (HA : Hp) (te : TE) (σ : L2.St) (o : Option (V × V)) : Prop := ∀ (H : Hp) (Q : VK), ExtN HA H → Tabs T H → (∀ v H2, ExtN H H2 → Tabs T H2 → It H2 v o → Q v H2) → te σ H Q
section
variable {T : List (Addr × Str)} {HA H : Hp} {K : PySem.W.Frag} {L : Addr} {os : List (Option (V × V))} {oA oB : Option (V × V)} {tA tB : TE} {σ : L2.St} {D : Ends} {i : Nat}
theorem hd_ext (h : Hd T HA L os H) (l : os.length ≤ 100) (hσ : σ[i]? = some (some (.ref L))) (A : One T HA tA σ oA) (B : One T HA tB σ oB) (next : ∀ H', Hd T HA L (os ++ [oA, oB]) H' → D.nx σ H') :
    tDrop (tBM K "list" rExtend (tVar i) (tCons (tLst (tCons tA (tCons tB tNil))) tNil)) D σ H := by
  have sz : sizeLine = 16777216 := sizeLine_eq
  obtain ⟨vs, h1, al⟩ := h.l
  refine ⟨_, hσ, .inl ⟨rfl, _, SqL.of h1⟩, A H _ h.ext h.tb fun va H2 x2 t2 ia => B H2 _ (h.ext.trans x2) t2 fun vb H3 x3 t3 ib => ⟨(by show 2 ≤ sizeLine; omega), fun lp nl => ?_⟩⟩
  have x13 := x2.trans x3
  have h3 := x13 _ _ h1 (fun _ z => nomatch z)
  have s4 := upd_new (o := .lst [va, vb]) nl
  have hl : upd H3 lp (.lst [va, vb]) lp = some (.lst [va, vb]) := upd_same
  generalize upd H3 lp (.lst [va, vb]) = H4 at s4 hl ⊢
  have h4 := s4 _ _ h3
  have x14 := x13.trans (Same.extN s4)
  have lv := al.1
  refine ⟨L, lp, vs, [va, vb], rfl, rfl, h4, hl, (by show vs.length + 2 ≤ sizeLine; omega), next _ ⟨fun b o e n => ?_, fun q hq => ?_, h.ne, _, upd_same, ?_⟩⟩
  · rw [upd_ne (h.ne _ _ e n)]
    exact x14 _ _ (h.ext _ _ e n) n
  · obtain ⟨ps, z1, z2, z3⟩ := tabs_same s4 t3 q hq
    refine ⟨ps, by rw [upd_ne (ne_of z1 h4 (fun z => nomatch z))]; exact z1, z2, fun pos cv hc => ?_⟩
    obtain ⟨c', e1, e2⟩ := z3 pos cv hc
    exact ⟨c', e1, by rw [upd_ne (ne_of e2 h4 (fun z => nomatch z))]; exact e2⟩
  · have a1 : All2 (It H4) vs os := al.mono fun u v z => z.extN x14
    have a2 := (a1.snoc (((ia.extN x3)).extN (Same.extN s4))).snoc (ib.extN (Same.extN s4))
    rw [List.append_assoc, List.append_assoc] at a2
    exact a2.mono fun u v z => z.upd h4
theorem hd_new {T0 : TS} (tbA : Tabs T HA) (A : One T HA tA σ oA) (B : One T HA tB σ oB) (next : ∀ L H', Hd T HA L [oA, oB] H' → T0 D (σ.set i (some (.ref L))) H') : tSeq (tAsg (tLst (tCons tA (tCons tB tNil))) (gName i)) T0 D σ HA := by
  have sz : sizeLine = 16777216 := sizeLine_eq
  refine A HA _ (ExtN.refl _) tbA fun va H2 x2 t2 ia => B H2 _ x2 t2 fun vb H3 x3 t3 ib => ⟨(by show 2 ≤ sizeLine; omega), fun L nL => next L _ ?_⟩
  have x13 := x2.trans x3
  have s4 := upd_new (o := .lst [va, vb]) nL
  exact ⟨x13.trans (Same.extN s4), tabs_same s4 t3, fun b o e n => ne_of_none (x13 _ _ e n) nL, _, upd_same, (All2.nil.snoc ((ia.extN x3).extN (Same.extN s4))).snoc (ib.extN (Same.extN s4))⟩
theorem hd_app (h : Hd T HA L os H) (l : os.length ≤ 100) (hσ : σ[i]? = some (some (.ref L))) (A : One T HA tA σ oA) (next : ∀ H', Hd T HA L (os ++ [oA]) H' → D.nx σ H') :
    tDrop (tBM K "list" rAppend (tVar i) (tCons tA tNil)) D σ H := by
  have sz : sizeLine = 16777216 := sizeLine_eq
  obtain ⟨vs, h1, al⟩ := h.l
  refine ⟨_, hσ, .inl ⟨rfl, _, SqL.of h1⟩, A H _ h.ext h.tb fun va H2 x2 t2 ia => ?_⟩
  have h2 := x2 _ _ h1 (fun _ z => nomatch z)
  have lv := al.1
  refine ⟨L, vs, va, rfl, rfl, h2, by omega, next _ ⟨fun b o e n => ?_, fun q hq => ?_, h.ne, _, upd_same, ?_⟩⟩
  · rw [upd_ne (h.ne _ _ e n)]
    exact x2 _ _ (h.ext _ _ e n) n
  · obtain ⟨ps, z1, z2, z3⟩ := t2 q hq
    refine ⟨ps, by rw [upd_ne (ne_of z1 h2 (fun z => nomatch z))]; exact z1, z2, fun pos cv hc => ?_⟩
    obtain ⟨c', e1, e2⟩ := z3 pos cv hc
    exact ⟨c', e1, by rw [upd_ne (ne_of e2 h2 (fun z => nomatch z))]; exact e2⟩
  · exact (All2.snoc (al.mono fun u v z => z.extN x2) ia).mono fun u v z => z.upd h2
variable {CW CD CI CT CU CM Cx : Addr} {t : XK → TE} {fs : List (Str × V)} {x y : V}
/-- an error is heard -/
theorem one_err (hw : ∀ d H' Q, H' d = some (.xd fs) → Tell H' x y Q → HeardW CW CD CI CT CU CM (.ref Cx) (some d) H' Q) (body : ∀ H1, ExtN HA H1 → ∀ (E : XK) (Q0 : VK), (∀ d H', ToldF H1 H' d fs → E (.ref Cx) (some d) H') → t E σ H1 Q0) : One T HA (tLam T (TTh CW CD CI CT CU CM) t) σ (some (x, y)) :=
  fun H Q x0 tb k => ⟨tb, fun H1 ex tb1 E Q0 hE hN => body H1 (x0.trans ex) E Q0 fun d H' told => hE _ _ _ (hw d H' _ told.at_ fun u H2 s2 hu => k _ _ (ex.trans (Same.extN (told.same.trans s2))) (tabs_same (told.same.trans s2) tb1) ⟨u, rfl, hu⟩)⟩
/-- none is -/
theorem one_non (body : ∀ H1, ExtN HA H1 → ∀ (E : XK) (Q0 : VK), (∀ v H', Same H1 H' → Q0 v H') → t E σ H1 Q0) : One T HA (tLam T (TTh CW CD CI CT CU CM) t) σ none :=
  fun H Q x0 tb k => ⟨tb, fun H1 ex tb1 E Q0 hE hN => body H1 (x0.trans ex) E Q0 fun v H' s => hN v H' (k _ _ (ex.trans (Same.extN s)) (tabs_same s tb1) rfl)⟩
theorem hw_w {v : V} : ∀ d H' Q, H' d = some (.xd [("part", v)]) → Tell H' (.str "swap") v Q → HeardW CW CD CI CT CU CM (.ref CW) (some d) H' Q := fun d H' Q e k => ⟨d, rfl, .inl ⟨v, rfl, e, k⟩⟩
theorem hw_d {v : V} : ∀ d H' Q, H' d = some (.xd [("part", v)]) → Tell H' (.str "done") v Q → HeardW CW CD CI CT CU CM (.ref CD) (some d) H' Q := fun d H' Q e k => ⟨d, rfl, .inr (.inl ⟨v, rfl, e, k⟩)⟩
theorem hw_i {v : V} : ∀ d H' Q, H' d = some (.xd [("number", v)]) → Tell H' (.str "hand") v Q → HeardW CW CD CI CT CU CM (.ref CI) (some d) H' Q := fun d H' Q e k => ⟨d, rfl, .inr (.inr (.inl ⟨v, rfl, e, k⟩))⟩
theorem hw_t {v : V} : ∀ d H' Q, H' d = some (.xd [("value", v)]) → Tell H' (.str "twice") v Q → HeardW CW CD CI CT CU CM (.ref CT) (some d) H' Q := fun d H' Q e k => ⟨d, rfl, .inr (.inr (.inr (.inl ⟨v, rfl, e, k⟩)))⟩
theorem hw_u {v : V} : ∀ d H' Q, H' d = some (.xd [("name", v)]) → Tell H' (.str "stranger") v Q → HeardW CW CD CI CT CU CM (.ref CU) (some d) H' Q := fun d H' Q e k => ⟨d, rfl, .inr (.inr (.inr (.inr (.inl ⟨v, rfl, e, k⟩))))⟩
theorem hw_m : ∀ d H' Q, H' d = some (.xd [("most", .int 12), ("what", .str "hands")]) → Tell H' (.str "hands") (.int 12) Q → HeardW CW CD CI CT CU CM (.ref CM) (some d) H' Q := fun d H' Q e k => ⟨d, rfl, .inr (.inr (.inr (.inr (.inr ⟨_, _, rfl, e, k⟩))))⟩
end
end K5

/-! k04: for _law_refused_right: what is heard against what is due. -/
namespace K5
open PySem PySem.Spec PyProof.Rows L2 LamX K1 K18

/-- a new pair -/
theorem tup_l {tx ty : TE} {x y : V} {σ : L2.St} {H : Hp} {Q : VK} (X : ∀ Q' : VK, Q' x H → tx σ H Q') (Y : ∀ Q' : VK, Q' y H → ty σ H Q') (k : ∀ t H', Same H H' → It H' (.ref t) (some (x, y)) → Q (.ref t) H') : tTup (tCons tx (tCons ty tNil)) σ H Q :=
  X _ (Y _ ⟨(by show 2 ≤ sizeLine; rw [sizeLine_eq]; decide), fun t nt => k t _ (upd_new nt) ⟨t, rfl, upd_same⟩⟩)
theorem It.same {H H' : Hp} {v : V} {o : Option (V × V)} (s : Same H H') (h : It H v o) : It H' v o := h.extN (Same.extN s)
theorem Hd.same {T : List (Addr × Str)} {HA H H' : Hp} {L : Addr} {os : List (Option (V × V))} (s : Same H H') (h : Hd T HA L os H) : Hd T HA L os H' := ⟨h.ext.trans (Same.extN s), tabs_same s h.tb, h.ne, let ⟨vs, e, al⟩ := h.l; ⟨vs, s _ _ e, al.mono fun _ _ z => z.same s⟩⟩
theorem Hd.rebase {T : List (Addr × Str)} {HA H : Hp} {L : Addr} {os : List (Option (V × V))} (h : Hd T HA L os H) : Hd T (delH H L) L os H ∧ ExtN HA (delH H L) := by
  refine ⟨⟨fun b o e n => ?_, h.tb, fun b o e n z => ?_, h.l⟩, fun b o e n => ?_⟩
  · by_cases z : b = L
    · rw [z, delH_same] at e; cases e
    · rwa [delH_ne z] at e
  · rw [z, delH_same] at e; cases e
  · rw [delH_ne (h.ne _ _ e n)]
    exact h.ext _ _ e n
theorem It.del {H : Hp} {v : V} {o : Option (V × V)} {L : Addr} {xs : List V} (hL : H L = some (.lst xs)) (h : It H v o) : It (delH H L) v o := by
  cases o with
  | none => exact h
  | some p => exact let ⟨t, e, z⟩ := h; ⟨t, e, by rw [delH_ne (ne_of z hL (fun z => nomatch z))]; exact z⟩
end K5

/-! repr of nested values that may hold instances of an own class. -/
namespace K18R
open PySem PySem.Spec PyProof.Rows L2 L2H K1

theorem rh_in1 {k : Nat} {A : Around} (r : RoomH (k + 1) A) : RoomH k A.in1 := ⟨by have := r.dp; show A.depth + 3 * k + 5 < _; omega, by have := r.un; show A.units + 1 + 16 * k + 200 < _; omega⟩
/-- code that runs at A for the body X: the same frames, room, the guards that run spare the addresses in S -/
structure At (X : Cx) (G0 : List Code) (k : Nat) (A : Around) (S : Addr → Prop) : Prop where
  fr : A.frames = some X.stack
  room : RoomH k A
  gd : ∃ g, A.guards = some (g ++ G0) ∧ ∀ b, S b → Clear g b
theorem At.env0 {X : Cx} {G0 : List Code} {k : Nat} {A : Around} {S : Addr → Prop} {pins : List (Addr × Obj)} {σ : L2.St} {H : Hp} {s : Shared} (t : At X G0 k A S) (I : Inv X pins σ H s) : Env0 X.prog X.w X.K X.mg X.base A X.stack s H := by
  have e := I.env0
  exact ⟨t.fr, e.mod, e.bs, e.bsz, e.funs, e.frf, e.hok, e.bare⟩
theorem At.in1 {X : Cx} {G0 : List Code} {k : Nat} {A : Around} {S : Addr → Prop} (t : At X G0 (k + 1) A S) : At X G0 k A.in1 S := by
  obtain ⟨g, h1, h2⟩ := t.gd
  exact ⟨t.fr, (rh_in1 t.room), g, h1, h2⟩
theorem At.less {X : Cx} {G0 : List Code} {j k : Nat} {A : Around} {S U : Addr → Prop} (t : At X G0 k A S) (h : j ≤ k) (hs : ∀ b, U b → S b) : At X G0 j A U := by
  obtain ⟨g, h1, h2⟩ := t.gd
  exact ⟨t.fr, t.room.mono h, g, h1, fun b hb => h2 b (hs b hb)⟩
/-- v is shown by the text t, wherever it is reached (X's heap H, at its time or later) -/
def RpU (X : Cx) (G0 : List Code) (k : Nat) (S : Addr → Prop) (H : Hp) (v : V) (t : Str) : Prop :=
  ∀ (base : Nat) (A : Around) (E : Value → Shared → Prop) (pins : List (Addr × Obj)) (σ : L2.St) (s : Shared) (H1 : Hp) (u : Value) (Q : Str → Shared → Prop),
    base + t.length ≤ sizeLine → At X G0 k A S → Inv X pins σ H1 s → Same H H1 → RelV v u →
    (∀ s' H2, Inv X pins σ H2 s' → Same H1 H2 → Q t s') → wpAny (model X.prog X.w) A (pyReprUnder base u) Q E s
/-- .. and by the call of repr itself -/
def RpT (X : Cx) (G0 : List Code) (k : Nat) (H : Hp) (v : V) (t : Str) : Prop :=
  ∀ (A : Around) (E : Value → Shared → Prop) (pins : List (Addr × Obj)) (σ : L2.St) (s : Shared) (H1 : Hp) (u : Value) (Q : Value → Shared → Prop),
    t.length ≤ sizeLine → A.guards = some G0 → A.frames = some X.stack → RoomH k A → Inv X pins σ H1 s → Same H H1 → RelV v u →
    (∀ s' H2 tk, Inv X pins σ H2 s' → Same H1 H2 → Q (.str t tk) s') → wpAny (model X.prog X.w) A (call (.builtin "repr") [u]) Q E s
theorem RpU.more {X : Cx} {G0 : List Code} {j k : Nat} {S U : Addr → Prop} {H : Hp} {v : V} {t : Str} (r : RpU X G0 j S H v t) (h : j ≤ k) (hs : ∀ b, S b → U b) : RpU X G0 k U H v t :=
  fun base A E pins σ s H1 u Q hb a I hsm rv hq => r base A E pins σ s H1 u Q hb (a.less h hs) I hsm rv hq
theorem RpU.later {X : Cx} {G0 : List Code} {k : Nat} {S : Addr → Prop} {H H' : Hp} {v : V} {t : Str} (r : RpU X G0 k S H v t) (s : Same H H') : RpU X G0 k S H' v t :=
  fun base A E pins σ s0 H1 u Q hb a I hs rv h => r base A E pins σ s0 H1 u Q hb a I (s.trans hs) rv h
theorem RpT.more {X : Cx} {G0 : List Code} {j k : Nat} {H : Hp} {v : V} {t : Str} (r : RpT X G0 j H v t) (h : j ≤ k) : RpT X G0 k H v t :=
  fun A E pins σ s H1 u Q hz hg hf hr I hs rv hq => r A E pins σ s H1 u Q hz hg hf (hr.mono h) I hs rv hq

/-! ### values without parts -/
theorem RpU.of_is {X : Cx} {G0 : List Code} {H : Hp} {v : V} {t : Str} (h : ∀ u, RelV v u → ReprIs X.prog X.w u t) : RpU X G0 0 (fun _ => False) H v t :=
  fun base A E pins σ s H1 u Q hb a I hs rv hq => h u rv base hb A E s Q fun tk => hq _ H1 (I.tok tk) (Same.refl _)
theorem RpU.int {X : Cx} {G0 : List Code} {H : Hp} {n : Int} (hn : n.natAbs.log2 < 1920) : RpU X G0 0 (fun _ => False) H (.int n) (toString n) :=
  .of_is fun u ⟨t, e⟩ => by rw [e]; exact ReprIs.int t hn
theorem RpU.str {X : Cx} {G0 : List Code} {H : Hp} {x : Str} (hx : (reprText x).length ≤ sizeLine) : RpU X G0 0 (fun _ => False) H (.str x) (reprText x) :=
  .of_is fun u ⟨t, e⟩ => by rw [e]; exact ReprIs.str x t hx
theorem RpU.bool {X : Cx} {G0 : List Code} {H : Hp} {b : Bool} : RpU X G0 0 (fun _ => False) H (.bl b) (if b then "True" else "False") :=
  .of_is fun u (e : u = _) => by rw [e]; exact ReprIs.bool b
theorem RpU.none {X : Cx} {G0 : List Code} {H : Hp} : RpU X G0 0 (fun _ => False) H .non "None" :=
  .of_is fun u (e : u = _) => by rw [e]; exact ReprIs.none
theorem RpT.int {X : Cx} {G0 : List Code} {H : Hp} {n : Int} (hn : n.natAbs.log2 < 1920) : RpT X G0 0 H (.int n) (toString n) := by
  rintro A E pins σ s H1 u Q hz hg hf hr I hs ⟨t, rfl⟩ hq
  exact PySem.P.repr_of_int hn (hq _ H1 _ (I.tok _) (Same.refl _))
theorem RpT.str {X : Cx} {G0 : List Code} {H : Hp} {x : Str} (hx : (reprText x).length ≤ sizeLine) : RpT X G0 0 H (.str x) (reprText x) := by
  rintro A E pins σ s H1 u Q hz hg hf hr I hs ⟨t, rfl⟩ hq
  exact PySem.P.repr_of_str (hq _ H1 _ (I.tok _) (Same.refl _)) hx
theorem RpT.bool {X : Cx} {G0 : List Code} {H : Hp} {b : Bool} : RpT X G0 0 H (.bl b) (if b then "True" else "False") := by
  intro A E pins σ s H1 u Q hz hg hf hr I hs rv hq
  obtain rfl : u = Value.bool b := rv
  exact PySem.P.repr_of_bool (hq _ H1 _ (I.tok _) (Same.refl _))
theorem RpT.none {X : Cx} {G0 : List Code} {H : Hp} : RpT X G0 0 H .non "None" := by
  intro A E pins σ s H1 u Q hz hg hf hr I hs rv hq
  obtain rfl : u = Value.none := rv
  exact PySem.P.repr_of_none (hq _ H1 _ (I.tok _) (Same.refl _))

section
variable {X : Cx} {G0 : List Code} {H : Hp} {a b : Addr} {ts : List Str} {xs : List V}
theorem tup_at {pins : List (Addr × Obj)} {σ : L2.St} {s : Shared} {H1 : Hp} (I : Inv X pins σ H1 s) (h : H1 a = some (.tup xs)) :
    ∃ (o : Obj) (its : List Value) (n : Nat), s.heap.get? a = some o ∧ o.cls = .type "tuple" ∧ o.data = .seq its.toArray n ∧ Vals xs its := by
  obtain ⟨_, its, r, o, h1, h2, n, h3⟩ := (show ObjOk X.prog X.w H1 s.heap a (.tup xs) from I.hok a _ h)
  exact ⟨o, its, n, h1, h2, h3, r⟩
theorem lst_at {pins : List (Addr × Obj)} {σ : L2.St} {s : Shared} {H1 : Hp} (I : Inv X pins σ H1 s) (h : H1 a = some (.lst xs)) :
    ∃ (its : List Value) (n : Nat), s.heap.get? a = some { cls := .type "list", data := .seq its.toArray n } ∧ Vals xs its := by
  obtain ⟨_, its, n, r, h1⟩ := (show ObjOk X.prog X.w H1 s.heap a (.lst xs) from I.hok a _ h)
  exact ⟨its, n, h1, r⟩
end

/-- each item is shown by its text -/
def RpAll (X : Cx) (G0 : List Code) (k : Nat) (S : Addr → Prop) (H : Hp) (xs : List V) (ts : List Str) : Prop := ts.length = xs.length ∧ ∀ (i : Nat) (x : V), xs[i]? = some x → ∃ t, ts[i]? = some t ∧ RpU X G0 k S H x t
theorem RpAll.tail {X : Cx} {G0 : List Code} {k : Nat} {S : Addr → Prop} {H : Hp} {x : V} {xs : List V} {t : Str} {ts : List Str} (h : RpAll X G0 k S H (x :: xs) (t :: ts)) : RpU X G0 k S H x t ∧ RpAll X G0 k S H xs ts := by
  refine ⟨?_, by have := h.1; simpa using this, fun i y e => ?_⟩
  · obtain ⟨t', e1, r⟩ := h.2 0 x rfl
    cases e1
    exact r
  · obtain ⟨t', e1, r⟩ := h.2 (i + 1) y (by simpa using e)
    exact ⟨t', by simpa using e1, r⟩

/-! ### lists -/
theorem under_frames {A : Around} {id : String} {args : Args} {l : List Env} (h : A.frames = some l) : (A.under (.builtin id args)).frames = some l := by
  first | exact h | (simpa [Around.under, Code.envs, Code.isFrame, pushEnvs] using h)
theorem At.loop {X : Cx} {G0 : List Code} {k : Nat} {A : Around} {a : Addr} {S : Addr → Prop} {id : String} {rest : List Value} (t : At X G0 (k + 1) A S) (hn : ¬ S a) (hcg : (Code.builtin id ⟨.ref a :: rest, []⟩).isGuard = true) (hw : (Code.builtin id ⟨.ref a :: rest, []⟩).weight = 1)
    (hcu : (A.under (.builtin id ⟨.ref a :: rest, []⟩)).units = A.units + 1) : At X G0 k (A.under (.builtin id ⟨.ref a :: rest, []⟩)) S := by
  obtain ⟨g, h1, h2⟩ := t.gd
  refine ⟨under_frames t.fr, ⟨?_, ?_⟩, _, guards_under_guard hcg h1, fun b hb => (h2 b hb).cons (a := a) fun e => hn (e ▸ hb)⟩
  · rw [show (A.under (.builtin id ⟨.ref a :: rest, []⟩)).depth = A.depth + 1 from congrArg (A.depth + ·) hw]; have := t.room.dp; omega
  · rw [hcu]; have := t.room.un; omega
theorem weight_loop (args : Args) : (Code.builtin "list.__repr__.loop" args).weight = 1 := by
  have e := isGuard_list_loop args
  have c1 : (Code.builtin "list.__repr__.loop" args).isCreation = false := by
    first | rfl | (simp [Code.isCreation])
  have c2 : (Code.builtin "list.__repr__.loop" args).isCaller = false := by
    first | rfl | (simp [Code.isCaller])
  unfold Code.weight
  rw [e, c1, c2]
  rfl
theorem weight_tup (args : Args) : (Code.builtin "tuple.__repr__" args).weight = 1 := by
  have e := isGuard_tuple_repr args
  have c1 : (Code.builtin "tuple.__repr__" args).isCreation = false := by
    first | rfl | (simp [Code.isCreation])
  have c2 : (Code.builtin "tuple.__repr__" args).isCaller = false := by
    first | rfl | (simp [Code.isCaller])
  unfold Code.weight
  rw [e, c1, c2]
  rfl
theorem weight_tupU (args : Args) : (Code.builtin "tuple.__repr__.under" args).weight = 1 := by
  have e := isGuard_tuple_repr_under args
  have c1 : (Code.builtin "tuple.__repr__.under" args).isCreation = false := by
    first | rfl | (simp [Code.isCreation])
  have c2 : (Code.builtin "tuple.__repr__.under" args).isCaller = false := by
    first | rfl | (simp [Code.isCaller])
  unfold Code.weight
  rw [e, c1, c2]
  rfl
theorem weight_dct (args : Args) : (Code.builtin "dict.__repr__" args).weight = 1 := by
  have e := isGuard_dict_repr args
  have c1 : (Code.builtin "dict.__repr__" args).isCreation = false := by
    first | rfl | (simp [Code.isCreation])
  have c2 : (Code.builtin "dict.__repr__" args).isCaller = false := by
    first | rfl | (simp [Code.isCaller])
  unfold Code.weight
  rw [e, c1, c2]
  rfl
theorem weight_dctU (args : Args) : (Code.builtin "dict.__repr__.under" args).weight = 1 := by
  have e := isGuard_dict_repr_under args
  have c1 : (Code.builtin "dict.__repr__.under" args).isCreation = false := by
    first | rfl | (simp [Code.isCreation])
  have c2 : (Code.builtin "dict.__repr__.under" args).isCaller = false := by
    first | rfl | (simp [Code.isCaller])
  unfold Code.weight
  rw [e, c1, c2]
  rfl
end K18R

/-! repr of lists, tuples, dicts that hold own instances. -/
namespace K18R
open PySem PySem.Spec PyProof.Rows L2 L2H K1
open Builtin
open Builtin.List

section
variable {X : Cx} {G0 : List Code} {H : Hp} {a P : Addr} {xs : List V} {ts : List Str} {S : Addr → Prop} {k base : Nat} {A : Around} {pins : List (Addr × Obj)} {σ : L2.St} {R : Result → Shared → Prop}
theorem loop_own (hne : a ≠ P) (hP0 : H P = none) (hn : ¬ S a) (at_ : At X G0 (k + 1) A S) (ha : H a = some (.lst xs)) (r : RpAll X G0 k S H xs ts) (hsz : base + (listText ts).length ≤ sizeLine) :
    ∀ (n i : Nat) (s : Shared) (H1 : Hp), xs.length - i = n → i ≤ xs.length → Inv X pins σ H1 s → Same H H1 → H1 P = some (.lst ((ts.take i).map V.str)) →
    (∀ s' H2 u, Inv X pins σ H2 s' → Same H H2 → (∀ b o, b ≠ P → H1 b = some o → H2 b = some o) → R (.ok (.ret (.str (listText ts) u))) s') →
    codeAny (model X.prog X.w) A (.builtin "list.__repr__.loop" ⟨[.ref a, rawInt i, .ref P, rawInt ((base + piled (ts.take i) : Nat) : Int)], []⟩) R s := by
  have hL := textFrom_len ts 0 "["
  have hX : (listText ts).length = (textFrom 0 "[" ts).length + 1 := by
    show (textFrom 0 "[" ts ++ "]").length = _
    rw [strLen_append]; rfl
  have hsz2 : ∀ t ∈ ts, t.length ≤ sizeLine := fun t ht => by
    have h2 := hL.2.1 t ht
    omega
  have hsz1 : ts.length ≤ sizeLine := by
    have h1 := hL.1
    rw [if_neg (Nat.lt_irrefl 0)] at h1
    omega
  have hp3 := piled_le_listText ts
  intro n
  induction n with
  | zero =>
    intro i s H1 hk hi I hs hP hR
    have hin : i = xs.length := by omega
    obtain ⟨its, na, h1, rv⟩ := lst_at I (hs _ _ ha)
    obtain ⟨ps, np, h2, rp⟩ := lst_at I hP
    refine codeAny_builtin F.entry_list_repr_loop ?_
    show wpAny _ _ («list.__repr__.loop» ⟨[.ref a, .int i 0, .ref P, .int ((base + piled (ts.take i) : Nat) : Int) 0], []⟩) _ _ s
    rw [repr_loop_tree]
    refine wpAny_bind (wpAny_listItems h1 rfl ?_)
    have hnone : its.toArray[(i : Int).toNat]? = none := by simp [hin, rv.length]
    simp only [hnone]
    unfold reprEnd
    refine wpAny_bind (wpAny_listItems h2 rfl ?_)
    have hall : ts.take i = ts := by rw [hin, ← r.1, List.take_length]
    rw [hall] at rp
    have asStrs : ∀ (l : List Str) (us : List Value), Vals (l.map V.str) us → ∃ d : List (Str × Tok), us = strValues d ∧ d.map (·.1) = l := by
      intro l
      induction l with
      | nil => intro us z; cases z; exact ⟨[], rfl, rfl⟩
      | cons x l ih =>
        intro us z
        cases z with
        | cons z1 z2 =>
          obtain ⟨t, rfl⟩ := z1
          obtain ⟨d, rfl, e⟩ := ih _ z2
          exact ⟨(x, t) :: d, rfl, by simp [e]⟩
    obtain ⟨d, e1, e2⟩ := asStrs ts ps rp
    have e3 : ps.toArray.toList = strValues d := by simp [e1]
    rw [e3, repr_fold]
    refine wpAny_bind (wpAny_pure ?_)
    rw [e2]
    refine wpAny_bind (wpAny_mkStr (wpAny_pure ?_) (Nat.le_trans (Nat.le_add_left _ _) hsz))
    exact hR _ H1 _ (I.tok _) hs (fun b o _ e => e)
  | succ n ih =>
    intro i s H1 hk hi I hs hP hR
    have hlt : i < xs.length := by omega
    obtain ⟨its, na, h1, rv⟩ := lst_at I (hs _ _ ha)
    obtain ⟨t, ht, hrep⟩ := r.2 i xs[i] (List.getElem?_eq_getElem hlt)
    obtain ⟨u, hu, ru⟩ := rv.get (List.getElem?_eq_getElem hlt)
    have hp1 := piled_take_succ ht
    have hp2 := piled_take_le ts (i + 1)
    refine codeAny_builtin F.entry_list_repr_loop ?_
    show wpAny _ _ («list.__repr__.loop» ⟨[.ref a, .int i 0, .ref P, .int ((base + piled (ts.take i) : Nat) : Int) 0], []⟩) _ _ s
    rw [repr_loop_tree]
    refine wpAny_bind (wpAny_listItems h1 rfl ?_)
    have hsome : its.toArray[(i : Int).toNat]? = some u := by simpa using hu
    simp only [hsome]
    rw [Int.toNat_natCast]
    refine wpAny_bind (wpAny_holding (hrep (base + piled (ts.take i) + 1) _ _ pins σ s H1 u _ (by omega) (at_.loop hn (isGuard_list_loop _) (weight_loop _) (units_under_list_loop _ _)) I hs ru fun s' H2 I2 hs2 => ?_))
    refine wpAny_bind (wpAny_mkStr ?_ (hsz2 t (List.mem_of_getElem? ht)))
    refine wpAny_bind ?_
    show wpAny _ _ (updateSeq P _) _ _ _
    have I3 := I2.tok (s'.toks + 1)
    have hP2 := hs2 _ _ hP
    obtain ⟨zp, ps, np, rp, h2⟩ := (show ObjOk X.prog X.w H2 s'.heap P _ from I2.hok P _ hP2)
    have lp : ps.length = i := by
      rw [← Paired.length rp]
      simp
      rw [r.1]; omega
    have pz : ps.toArray.size ≤ sizeLine := by
      show ps.length ≤ _
      rw [lp, ← r.1] at *
      omega
    have rvs : Vals ((ts.take (i + 1)).map V.str) (ps ++ [.str t s'.toks]) := by
      rw [List.take_add_one, ht]
      simp only [Option.toList, List.map_append, List.map_cons, List.map_nil]
      exact rp.append (.cons ⟨_, rfl⟩ .nil)
    have lz : ((ts.take (i + 1)).map V.str).length ≤ sizeLine := by
      rw [List.length_map, List.length_take]
      omega
    have J := I3.lset (l := P) (f := fun p => p.push (.str t s'.toks)) (t' := s'.toks + 1) hP2 h2 (by simp) rvs lz
    refine wpAny_updateSeq h2 rfl (wpAny_pure ⟨F.quiet_list_repr_loop _, ?_⟩) pz
    have e1 : ((i : Int) + 1) = ((i + 1 : Nat) : Int) := by omega
    have e2 : base + piled (ts.take i) + (t.length + 2) = base + piled (ts.take (i + 1)) := by omega
    rw [e1, e2]
    have sP : ∀ b o, b ≠ P → H2 b = some o → upd H2 P (.lst ((ts.take (i + 1)).map V.str)) b = some o := fun b o hb e => by rw [upd_ne hb]; exact e
    have hs3 : Same H (upd H2 P (.lst ((ts.take (i + 1)).map V.str))) := fun b o e => sP b o (ne_of_none e hP0) (hs2 _ _ (hs _ _ e))
    refine ih (i + 1) _ _ (by omega) hlt J hs3 upd_same fun s4 H4 u4 I4 hs4 k4 => ?_
    exact hR s4 H4 u4 I4 hs4 fun b o hb e => k4 b o hb (sP b o hb (hs2 _ _ e))
end
section
variable {X : Cx} {G0 : List Code} {H : Hp} {a : Addr} {x0 : V} {r0 : List V} {ts : List Str} {S : Addr → Prop} {k base : Nat} {A : Around} {pins : List (Addr × Obj)} {σ : L2.St} {R : Result → Shared → Prop} {s : Shared} {H1 : Hp}
/-- a frame below is at work on this list -/
def lstF (a : Addr) : Code × Pos → Bool := fun
  | (.builtin "list.__repr__.loop" ⟨v :: _, _⟩, _) => Builtin.List.listSameRef v (.ref a)
  | _ => false
theorem lstF_off (a : Addr) (c : Code) (p : Pos) (h : c.isGuard = false) : lstF a (c, p) = false := by
  unfold lstF
  split
  · next heq => cases heq; simp [Code.isGuard, guardIds] at h
  · rfl
theorem lstF_pos (a : Addr) (c : Code) (p : Pos) : lstF a (c, p) = lstF a (c, default) := by
  cases c with
  | builtin id args =>
    obtain ⟨pos, kw⟩ := args
    cases pos with
    | nil =>
      have e : ∀ q, lstF a (Code.builtin id ⟨[], kw⟩, q) = false := fun q => by
        unfold lstF
        split
        · next heq => cases heq
        · rfl
      rw [e, e]
    | cons v rest =>
      unfold lstF
      split
      · next heq => cases heq; rfl
      · next h =>
        split
        · next heq => cases heq; exact absurd rfl (h _ _ _ _)
        · rfl
  | _ => rfl
def hitL (G0 : List Code) (a : Addr) : Bool := G0.any fun c => lstF a (c, default)
theorem hitL_no (h : hitL G0 a = false) (v : Value) (rest : List Value) (kw : List (Str × Value)) (hm : Code.builtin "list.__repr__.loop" ⟨v :: rest, kw⟩ ∈ G0) : Builtin.List.listSameRef v (.ref a) = false := by
  have z := List.any_eq_false.mp h _ hm
  cases q : Builtin.List.listSameRef v (.ref a) with
  | false => rfl
  | true => exact absurd (show lstF a (Code.builtin "list.__repr__.loop" ⟨v :: rest, kw⟩, default) = true from q) z
theorem hit_own (at_ : At X G0 k A S) (ha : H a = some (.lst (x0 :: r0))) (hit : hitL G0 a = true) (I : Inv X pins σ H1 s) (hs : Same H H1) {c : Code}
    (hR : ∀ s' u, Inv X pins σ H1 s' → R (.ok (.ret (.str "[...]" u))) s') :
    wpOwn (model X.prog X.w) A c (Builtin.listReprAt base ⟨[.ref a], []⟩)
      (fun fin s' => match fin with | .done f => R (.ok f) s' | .again c' => c'.quiet = true ∧ codeAny (model X.prog X.w) A c' R s') (fun e s' => R (.error e) s') s := by
  obtain ⟨g, g1, g2⟩ := at_.gd
  obtain ⟨its, na, h1, rv⟩ := lst_at I (hs _ _ ha)
  cases rv with
  | @cons _ u0 _ ur q0 q1 =>
    unfold Builtin.listReprAt
    refine wpOwn_bind (wpOwn_of_wpAny (show wpAny _ _ (pure (Value.ref a, ([] : List Value))) _ _ s from wpAny_pure ?_))
    refine wpOwn_bind (wpOwn_of_wpAny (wpAny_listItems h1 rfl ?_))
    rw [if_neg (by simp)]
    refine wpOwn_bind (wpOwn_stack fun p below hgd _ _ => ?_)
    have any : (((c, p) :: below).tail.any (lstF a)) = true := by
      show below.any (lstF a) = true
      rw [any_eq_guards (lstF_off a) (lstF_pos a), hgd _ g1, List.any_append, show (G0.any fun c => lstF a (c, default)) = true from hit, Bool.or_true]
    show wpOwn _ _ _ (if ((c, p) :: below).tail.any (lstF a) = true then _ else _) _ _ s
    rw [if_pos any]
    refine wpOwn_of_wpAny (wpAny_bind (wpAny_rule ?_))
    refine wpAny_bind (wpAny_mkStr (wpAny_pure ?_) (by decide +kernel))
    exact hR _ s.toks (I.tok (s.toks + 1))
theorem head_own (hno : hitL G0 a = false) (hn : ¬ S a) (at_ : At X G0 (k + 1) A (fun b => b = a ∨ S b)) (ha : H a = some (.lst (x0 :: r0))) (r : RpAll X G0 k S H (x0 :: r0) ts) (hsz : base + (listText ts).length ≤ sizeLine) (I : Inv X pins σ H1 s) (hs : Same H H1)
    (hR : ∀ s' H2 u, Inv X pins σ H2 s' → Same H1 H2 → R (.ok (.ret (.str (listText ts) u))) s') :
    wpAny (model X.prog X.w) A.in1 (Builtin.listReprAt base ⟨[.ref a], []⟩)
      (fun fin s' => match fin with | .done f => R (.ok f) s' | .again c' => c'.quiet = true ∧ codeAny (model X.prog X.w) A c' R s') (fun e s' => R (.error e) s') s := by
  obtain ⟨g, g1, g2⟩ := at_.gd
  obtain ⟨its, na, h1, rv⟩ := lst_at I (hs _ _ ha)
  have hca : Clear g a := g2 a (.inl rfl)
  cases rv with
  | @cons _ u0 _ ur q0 q1 =>
    refine wpAny_list_repr_head (A := A.in1) g1 (fun v rest kw hm => (List.mem_append.mp hm).elim (fun hm => listSameRef_of_ne (hca _ _ _ _ hm)) fun hm => hitL_no hno v rest kw hm) h1 rfl ?_
    refine wpAny_bind (m := newList []) (wpAny_newObj_type ?_)
    refine wpAny_pure ⟨F.quiet_list_repr_loop _, ?_⟩
    have hP : H1 s.heap.objs.size = none := I.hok.fresh (Nat.le_refl _)
    have J := I.lnew (its := []) (ys := []) (t' := s.toks) .nil (Nat.zero_le _)
    have hP0 : H s.heap.objs.size = none := hs.free hP
    have hne : a ≠ s.heap.objs.size := ne_of_none ha hP0
    have sm : Same H1 (upd H1 s.heap.objs.size (.lst [])) := fun b o e => by rw [upd_ne (ne_of_none e hP)]; exact e
    refine loop_own (P := s.heap.objs.size) hne hP0 hn (at_.less (Nat.le_refl _) fun b hb => .inr hb) ha r hsz _ 0 _ _ rfl (Nat.zero_le _) J (hs.trans sm) (by simpa using upd_same) fun s' H2 u I2 hs2 k2 => ?_
    exact hR s' H2 u I2 fun b o e => k2 b o (ne_of_none e hP) (sm b o e)
end
section
variable {X : Cx} {G0 : List Code} {H : Hp} {a : Addr} {x0 : V} {r0 : List V} {ts : List Str} {S : Addr → Prop} {k : Nat}
theorem RpU.lst (hno : hitL G0 a = false) (hn : ¬ S a) (ha : H a = some (.lst (x0 :: r0))) (r : RpAll X G0 k S H (x0 :: r0) ts) : RpU X G0 (k + 1) (fun b => b = a ∨ S b) H (.ref a) (listText ts) := by
  intro base A E pins σ s H1 u Q hb at_ I hs rv hq
  obtain rfl : u = Value.ref a := rv
  obtain ⟨its, na, h1, rv⟩ := lst_at I (hs _ _ ha)
  have hT : s.TypeIs (.ref a) "list" := ⟨_, h1, rfl⟩
  refine wpAny_pyReprUnder_ref (by omega) (wpAny_pyReprObjUnder_twin (twin := "list.__repr__.under") hT F.slot_list_repr.toG rfl (by have := at_.room.un; omega)
    (call_twin_plain F.plain_list_repr_under F.entry_list_repr_under F.check_list_repr_under hT F.slot_list_repr.toG (F.args_list_repr_1 _) ?_))
  exact head_own hno hn at_ ha r hb I hs fun s' H2 u I2 hs2 => ⟨⟨_, _, rfl⟩, _, _, rfl, hq s' H2 I2 hs2⟩
theorem RpT.lst (hno : hitL G0 a = false) (hn : ¬ S a) (ha : H a = some (.lst (x0 :: r0))) (r : RpAll X G0 k S H (x0 :: r0) ts) : RpT X G0 (k + 2) H (.ref a) (listText ts) := by
  intro A E pins σ s H1 u Q hz hg hf hr I hs rv hq
  obtain rfl : u = Value.ref a := rv
  obtain ⟨its, na, h1, rv⟩ := lst_at I (hs _ _ ha)
  have hT : s.TypeIs (.ref a) "list" := ⟨_, h1, rfl⟩
  have at_ : At X G0 (k + 2) A (fun b => b = a ∨ S b) := ⟨hf, hr, [], hg, fun b _ => Clear.nil b⟩
  refine call_repr_slot (by have := hr.un; omega) hT F.slot_list_repr.toG ?_
  refine wpAny_call (codeAny_call_builtin F.slot_list_repr.plain F.entry_list_repr (F.slot_list_repr.check _ _ _ _ _ _ _ _ hT (F.args_list_repr_1 _) ?_))
  exact head_own (base := 0) (A := A.in1) (R := fun r s' => match r with
    | .ok (.ret v) => ∃ x t, v = Value.str x t ∧ Q v s'
    | .ok _ => False
    | .error e => E e s') hno hn at_.in1 ha r (by omega) I hs fun s' H2 u I2 hs2 => ⟨_, _, rfl, hq s' H2 _ I2 hs2⟩
theorem RpU.lstHit (ha : H a = some (.lst (x0 :: r0))) (hit : hitL G0 a = true) : RpU X G0 0 (fun _ => False) H (.ref a) "[...]" := by
  intro base A E pins σ s H1 u Q hb at_ I hs rv hq
  obtain rfl : u = Value.ref a := rv
  obtain ⟨its, na, h1, rv⟩ := lst_at I (hs _ _ ha)
  have hT : s.TypeIs (.ref a) "list" := ⟨_, h1, rfl⟩
  refine wpAny_pyReprUnder_ref (by omega) (wpAny_pyReprObjUnder_twin (twin := "list.__repr__.under") hT F.slot_list_repr.toG rfl (by have := at_.room.un; omega)
    (call_twin_own (Code.quiet_builtin _ (by decide +kernel)) F.entry_list_repr_under F.check_list_repr_under hT F.slot_list_repr.toG (F.args_list_repr_1 _) ?_))
  exact hit_own at_ ha hit I hs fun s' u I2 => ⟨⟨_, _, rfl⟩, _, _, rfl, hq s' H1 I2 (Same.refl _)⟩
theorem RpT.lstHit (ha : H a = some (.lst (x0 :: r0))) (hit : hitL G0 a = true) : RpT X G0 1 H (.ref a) "[...]" := by
  intro A E pins σ s H1 u Q hz hg hf hr I hs rv hq
  obtain rfl : u = Value.ref a := rv
  obtain ⟨its, na, h1, rv⟩ := lst_at I (hs _ _ ha)
  have hT : s.TypeIs (.ref a) "list" := ⟨_, h1, rfl⟩
  have at_ : At X G0 1 A (fun _ => False) := ⟨hf, hr, [], hg, fun b z => z.elim⟩
  refine call_repr_slot (by have := hr.un; omega) hT F.slot_list_repr.toG ?_
  refine wpAny_call (codeAny_call_builtin_own (Code.quiet_builtin _ (by decide +kernel)) F.entry_list_repr (F.slot_list_repr.check _ _ _ _ _ _ _ _ hT (F.args_list_repr_1 _) ?_))
  exact hit_own (base := 0) (R := callEnd (fun v s' => ∃ x t, v = Value.str x t ∧ Q v s') E) at_.in1 ha hit I hs fun s' u I2 => ⟨_, _, rfl, hq s' H1 _ I2 (Same.refl _)⟩
theorem RpT.nilL (ha : H a = some (.lst [])) : RpT X G0 0 H (.ref a) "[]" := by
  intro A E pins σ s H1 u Q hz hg hf hr I hs rv hq
  obtain rfl : u = Value.ref a := rv
  obtain ⟨its, na, h1, rv⟩ := lst_at I (hs _ _ ha)
  cases rv
  have hT : s.TypeIs (.ref a) "list" := ⟨_, h1, rfl⟩
  exact call_repr_slot (by have := hr.un; omega) hT F.slot_list_repr.toG (call_list_repr_empty hT h1 rfl ⟨_, _, rfl, hq _ H1 _ (I.tok _) (Same.refl _)⟩)
/-- repr(v): wherever the guards are none -/
def rRepr (X : Cx) (G0 : List Code) : List V → Hp → VK → Prop := fun xs H Q => ∃ (v : V) (k : Nat) (t : Str), xs = [v] ∧ RpT X G0 k H v t ∧ RoomH k X.A ∧ t.length ≤ sizeLine ∧ ∀ H', Same H H' → Q (.str t) H'
theorem call_reprX (hg : X.A.guards = some G0) : CallR X (.builtin "repr") (rRepr X G0) := by
  intro pins s σ H xs us Q I r h
  obtain ⟨v, k, t, rfl, h, hr, hz, q⟩ := h
  obtain ⟨u, rfl, ru⟩ := Vals.one r
  exact h X.A X.xe pins σ s H u _ hz hg I.ok.frames hr I (Same.refl _) ru fun s' H2 tk I2 hs2 => ⟨.str t, H2, I2, ⟨tk, rfl⟩, q H2 hs2⟩
end
end K18R

/-! repr of tuples and dicts that hold own instances. -/
namespace K18R
open PySem PySem.Spec PyProof.Rows L2 L2H K1
open Builtin

section
variable {X : Cx} {G0 : List Code} {H : Hp} {S : Addr → Prop} {k : Nat} {A : Around} {E : Value → Shared → Prop} {pins : List (Addr × Obj)} {σ : L2.St}
theorem tup_fold (at_ : At X G0 k A S) : ∀ (xs : List V) (us : List Value) (ts : List Str) (acc : Array Str) (n : Nat) (s : Shared) (H1 : Hp) (Q : (Array Str × Nat) → Shared → Prop),
    Vals xs us → RpAll X G0 k S H xs ts → n + piled ts ≤ sizeLine → Inv X pins σ H1 s → Same H H1 →
    (∀ s' H2, Inv X pins σ H2 s' → Same H1 H2 → Q ⟨acc ++ ts.toArray, n + piled ts⟩ s') →
    wpAny (model X.prog X.w) A (forIn us (⟨acc, n⟩ : (Array Str × Nat)) tupBody) Q E s := by
  intro xs
  induction xs with
  | nil =>
    intro us ts acc n s H1 Q r hT _ I hs h
    cases r
    have e : ts = [] := List.length_eq_zero_iff.mp hT.1
    subst e
    have h0 := h s H1 I (Same.refl _)
    simp only [List.forIn_nil]
    exact wpAny_pure (by simpa [piled] using h0)
  | cons x xs ih =>
    intro us ts acc n s H1 Q r hT hn I hs h
    cases r with
    | @cons _ u _ us' rx r' =>
      obtain ⟨t, ts', rfl⟩ : ∃ t ts', ts = t :: ts' := by
        cases ts with
        | nil => have := hT.1; simp at this
        | cons t ts' => exact ⟨t, ts', rfl⟩
      obtain ⟨hx, hl⟩ := hT.tail
      rw [piled_cons] at hn
      rw [List.forIn_cons]
      refine wpAny_bind (wpAny_bind (hx (n + 1) _ _ pins σ s H1 u _ (by omega) at_ I hs rx fun s' H2 I2 hs2 => wpAny_pure ?_))
      refine ih us' ts' (acc.push t) (n + (t.length + 2)) _ H2 Q r' hl (by omega) I2 (hs.trans hs2) fun s3 H3 I3 hs3 => ?_
      have h1 := h s3 H3 I3 (hs2.trans hs3)
      have e : n + piled (t :: ts') = n + (t.length + 2) + piled ts' := by rw [piled_cons]; omega
      rw [e] at h1
      simpa using h1
end

section
variable {X : Cx} {G0 : List Code} {H : Hp} {a : Addr} {xs : List V} {ts : List Str} {S : Addr → Prop} {k : Nat}
def hitT (G0 : List Code) (a : Addr) : Bool := G0.any fun c => tupGuardF (.ref a) (c, default)
def hitD (G0 : List Code) (a : Addr) : Bool := G0.any fun c => dictGuardF (.ref a) (c, default)
theorem own_tup (hno : hitT G0 a = false) (hn : ¬ S a) (ha : H a = some (.tup xs)) (r : RpAll X G0 k S H xs ts) {A : Around} {s : Shared} {H1 : Hp} {pins : List (Addr × Obj)} {σ : L2.St} {R : Result → Shared → Prop} {base : Nat} {id : String} {rest : List Value}
    (hcg : (Code.builtin id ⟨.ref a :: rest, []⟩).isGuard = true) (hw : (Code.builtin id ⟨.ref a :: rest, []⟩).weight = 1) (hcu : (A.under (.builtin id ⟨.ref a :: rest, []⟩)).units = A.units + 1)
    (at_ : At X G0 (k + 1) A (fun b => b = a ∨ S b)) (I : Inv X pins σ H1 s) (hs : Same H H1) (hsz : base + (tupleText ts).length ≤ sizeLine)
    (hR : ∀ s' H2 u, Inv X pins σ H2 s' → Same H1 H2 → R (.ok (.ret (.str (tupleText ts) u))) s') :
    wpOwn (model X.prog X.w) A (.builtin id ⟨.ref a :: rest, []⟩) (Builtin.tupleReprAt base ⟨[.ref a], []⟩) (fun fin s' => match fin with | .done f => R (.ok f) s' | .again c' => c'.quiet = true ∧ codeAny (model X.prog X.w) A c' R s') (fun e s' => R (.error e) s') s := by
  obtain ⟨g, hg, hcl⟩ := at_.gd
  obtain ⟨o, its, n, h1, h2, h3, rv⟩ := tup_at I (hs _ _ ha)
  have hca : Clear g a := hcl a (.inl rfl)
  have hlen : ts.length = its.toArray.size := by rw [r.1, rv.length]; simp
  have hp := piled_le_tupleText ts
  have hsz0 : (tupleText ts).length ≤ sizeLine := by omega
  rw [tuple_repr_tree, tupleReprUnderWay_eq]
  refine wpOwn_bind (wpOwn_stackTailAny hg (tupGuardF_off _) (tupGuardF_pos _) ?_)
  have hnn : ((g ++ G0).any fun c => tupGuardF (.ref a) (c, default)) = false := by
    rw [List.any_append, show (G0.any fun c => tupGuardF (.ref a) (c, default)) = false from hno, Bool.or_false, List.any_eq_false]
    intro c hcm
    rw [tupGuardF_of_clear hca c hcm]
    exact Bool.false_ne_true
  rw [hnn]
  refine wpOwn_of_wpAny ?_
  show wpAny _ _ (tupleReprRest base (.ref a)) _ _ s
  unfold tupleReprRest Builtin.Tuple.tupleItemsOf
  refine wpAny_bind (wpAny_bind (wpAny_seqItems h1 h3 (wpAny_pure ?_)))
  rw [← Array.forIn_toList]
  have a2 := (at_.less (j := k + 1) (U := S) (Nat.le_refl _) fun b hb => .inr hb).loop (rest := rest) hn hcg hw hcu
  refine wpAny_bind (tup_fold a2 xs its ts _ _ s H1 _ rv r (by omega) I hs fun s' H2 I2 hs2 => ?_)
  refine wpAny_bind (wpAny_mkStr (wpAny_pure ?_) (by simpa [tupleText, hlen] using hsz0))
  have h1 := hR _ H2 s'.toks (I2.tok (s'.toks + 1)) hs2
  simpa [tupleText, hlen] using h1
theorem RpU.tup (hno : hitT G0 a = false) (hn : ¬ S a) (ha : H a = some (.tup xs)) (r : RpAll X G0 k S H xs ts) : RpU X G0 (k + 1) (fun b => b = a ∨ S b) H (.ref a) (tupleText ts) := by
  intro base A E pins σ s H1 u Q hb at_ I hs rv hq
  obtain rfl : u = Value.ref a := rv
  obtain ⟨o, its, n, h1, h2, h3, rv⟩ := tup_at I (hs _ _ ha)
  have hT : s.TypeIs (.ref a) "tuple" := ⟨o, h1, h2⟩
  refine wpAny_pyReprUnder_ref (by omega) (wpAny_pyReprObjUnder_twin (twin := "tuple.__repr__.under") hT F.slot_tuple_repr rfl (by have := at_.room.un; omega)
    (call_twin_own (F.quiet_tuple_repr_under _) F.entry_tuple_repr_under F.check_tuple_repr_under hT F.slot_tuple_repr (F.args_tuple_repr_1 _) ?_))
  exact own_tup hno hn ha r (isGuard_tuple_repr_under _) (weight_tupU _) (units_under_tuple_repr_under _ _) at_ I hs hb fun s' H2 u I2 hs2 => ⟨⟨_, _, rfl⟩, _, _, rfl, hq s' H2 I2 hs2⟩
theorem RpT.tup (hno : hitT G0 a = false) (hn : ¬ S a) (ha : H a = some (.tup xs)) (r : RpAll X G0 k S H xs ts) : RpT X G0 (k + 2) H (.ref a) (tupleText ts) := by
  intro A E pins σ s H1 u Q hz hg hf hr I hs rv hq
  obtain rfl : u = Value.ref a := rv
  obtain ⟨o, its, n, h1, h2, h3, rv⟩ := tup_at I (hs _ _ ha)
  have hT : s.TypeIs (.ref a) "tuple" := ⟨o, h1, h2⟩
  have at_ : At X G0 (k + 2) A (fun b => b = a ∨ S b) := ⟨hf, hr, [], hg, fun b _ => Clear.nil b⟩
  refine call_repr_slot (by have := hr.un; omega) hT F.slot_tuple_repr ?_
  refine wpAny_call (codeAny_call_builtin_own (Code.quiet_builtin _ (by decide +kernel)) F.entry_tuple_repr (F.slot_tuple_repr.check _ _ _ _ _ _ _ _ hT (F.args_tuple_repr_1 _) ?_))
  exact own_tup (base := 0) (rest := []) (R := callEnd (fun v s' => ∃ x t, v = Value.str x t ∧ Q v s') E) hno hn ha r (isGuard_tuple_repr _) (weight_tup _) (units_under_tuple_repr _ _) at_.in1 I hs (by omega) fun s' H2 u I2 hs2 => ⟨_, _, rfl, hq s' H2 _ I2 hs2⟩
end

/-! ### dicts -/
/-- all but what stands at p -/
def hide (p : Addr) (H : Hp) : Hp := fun b => if b = p then none else H b
theorem hide_ne {p b : Addr} {H : Hp} (h : b ≠ p) : hide p H b = H b := if_neg h
theorem hide_of {p b : Addr} {H : Hp} {o : HO} (h : hide p H b = some o) : b ≠ p ∧ H b = some o := by
  unfold hide at h
  by_cases e : b = p
  · rw [if_pos e] at h; cases h
  · rw [if_neg e] at h; exact ⟨e, h⟩
theorem hide_same {p : Addr} {H : Hp} : Same (hide p H) H := fun b o e => (hide_of e).2
/-- each entry is shown by its key's text and its value's -/
def RpEnt (X : Cx) (G0 : List Code) (k : Nat) (S : Addr → Prop) (H : Hp) (kvs : List (Key × V)) (ps : List Str) : Prop :=
  ps.length = kvs.length ∧ ∀ (i : Nat) (p : Key × V), kvs[i]? = some p → ∃ tk tv : Str, ps[i]? = some (tk ++ ": " ++ tv) ∧ (∀ u, keyIs p.1 u = true → ReprIs X.prog X.w u tk) ∧ RpU X G0 k S H p.2 tv
/-- the entries of a dict's object -/
theorem dct_ent {P : Program} {w : World} {H : Hp} {h : Heap} {a : Addr} {kvs : List (Key × V)} {o : Obj} (x : ObjOk P w H h a (.dK kvs)) (ho : h.get? a = some o) :
    ∃ (es : Array DictEntry) (n : Nat), o.cls = .type "dict" ∧ o.data = .dict es n ∧ (a == sysModules) = false ∧ es.size = kvs.length ∧
      ∀ (i : Nat) (p : Key × V) (e : DictEntry), kvs[i]? = some p → es[i]? = some e → keyIs p.1 e.key = true ∧ RelV p.2 e.val := by
  obtain ⟨_, hsys, vs, kvr, o', es, ep, h1, h2, h3, _, h5, _⟩ := x
  rw [ho] at h1
  cases h1
  have go : ∀ (kvs : List (Key × V)) (vs : List (Key × Value)) (l : List DictEntry), KV kvs vs → Pairs (mixKind P w) l vs → l.length = kvs.length ∧
      ∀ (i : Nat) (p : Key × V) (e : DictEntry), kvs[i]? = some p → l[i]? = some e → keyIs p.1 e.key = true ∧ RelV p.2 e.val := by
    intro kvs
    induction kvs with
    | nil =>
      intro vs l r z
      cases r
      cases z
      exact ⟨rfl, fun i p e h => by simp at h⟩
    | cons q kvs ih =>
      intro vs l r z
      cases r with
      | @cons _ w _ vs' r0 r1 =>
        cases z with
        | @cons e0 _ es' _ hk hv hr =>
          obtain ⟨i1, i2⟩ := ih _ _ r1 hr
          refine ⟨by simp [i1], fun i p e hp he => ?_⟩
          cases i with
          | zero =>
            simp at hp he
            subst hp he
            rw [r0.1]
            exact ⟨hk, by rw [hv]; exact r0.2⟩
          | succ i => exact i2 i p e (by simpa using hp) (by simpa using he)
  obtain ⟨g1, g2⟩ := go kvs vs es.toList kvr h5
  exact ⟨es, ep, h2.1, h3, hsys, by simpa using g1, fun i p e hp he => g2 i p e hp (by simpa using he)⟩
section
variable {X : Cx} {G0 : List Code} {H : Hp} {a : Addr} {kvs : List (Key × V)} {ps : List Str} {S : Addr → Prop} {k : Nat}
theorem own_dct (hno : hitD G0 a = false) (hn : ¬ S a) (ha : H a = some (.dK kvs)) (r : RpEnt X G0 k S (hide a H) kvs ps) {A : Around} {s : Shared} {H1 : Hp} {pins : List (Addr × Obj)} {σ : L2.St} {R : Result → Shared → Prop} {base : Nat} {id : String} {rest : List Value}
    (hcg : (Code.builtin id ⟨.ref a :: rest, []⟩).isGuard = true) (hw : (Code.builtin id ⟨.ref a :: rest, []⟩).weight = 1) (hcu : (A.under (.builtin id ⟨.ref a :: rest, []⟩)).units = A.units + 1)
    (at_ : At X G0 (k + 1) A (fun b => b = a ∨ S b)) (I : Inv X pins σ H1 s) (hs : Same H H1) (hsz : base + (dictText ps).length ≤ sizeLine)
    (hR : ∀ s' H2 u, Inv X pins σ H2 s' → Same H1 H2 → R (.ok (.ret (.str (dictText ps) u))) s') :
    wpOwn (model X.prog X.w) A (.builtin id ⟨.ref a :: rest, []⟩) (Builtin.dictReprAt base ⟨[.ref a], []⟩) (fun fin s' => match fin with | .done f => R (.ok f) s' | .again c' => c'.quiet = true ∧ codeAny (model X.prog X.w) A c' R s') (fun e s' => R (.error e) s') s := by
  obtain ⟨g, hg, hcl⟩ := at_.gd
  have ha1 := hs _ _ ha
  obtain ⟨o, IL⟩ := I.lock ha1 trivial
  obtain ⟨h1, hok⟩ := (show ObjOk X.prog X.w (upd H1 a (.frz o (.dK kvs))) s.heap a (.frz o (.dK kvs)) from IL.hok a _ upd_same)
  obtain ⟨es, n, h2, h3, hsys, hsz1, hent⟩ := dct_ent hok h1
  have hTy : s.TypeIs (.ref a) "dict" := ⟨o, h1, h2⟩
  have hca : Clear g a := hcl a (.inl rfl)
  have hlen : ps.length = es.size := by rw [r.1, hsz1]
  have hp3 := piled_le_dictText ps
  have hsz0 : (dictText ps).length ≤ sizeLine := by omega
  have hsL : Same (hide a H) (upd H1 a (.frz o (.dK kvs))) := fun b u e => by
    obtain ⟨e1, e2⟩ := hide_of e
    rw [upd_ne e1]
    exact hs _ _ e2
  unfold Builtin.dictReprAt
  refine wpOwn_bind (wpOwn_of_wpAny ?_)
  unfold Builtin.Dict.dictSlotNone
  refine wpAny_bind (wpAny_notOrdered_dict hTy ?_)
  show wpAny _ _ (pure (Value.ref a)) _ _ s
  refine wpAny_pure ?_
  rw [dictReprRunning_eq]
  refine wpOwn_bind (wpOwn_stackTailAny hg (dictGuardF_off _) (dictGuardF_pos _) ?_)
  have hnn : ((g ++ G0).any fun c => dictGuardF (.ref a) (c, default)) = false := by
    rw [List.any_append, show (G0.any fun c => dictGuardF (.ref a) (c, default)) = false from hno, Bool.or_false, List.any_eq_false]
    intro c hcm
    rw [dictGuardF_of_clear hca c hcm]
    exact Bool.false_ne_true
  rw [hnn]
  refine wpOwn_of_wpAny ?_
  have a2 := (at_.less (j := k + 1) (U := S) (Nat.le_refl _) fun b hb => .inr hb).loop (rest := rest) hn hcg hw hcu
  show wpAny _ _ (Builtin.Dict.addrOf (.ref a) >>= _) _ _ s
  refine wpAny_bind (wpAny_pure ?_)
  show wpAny _ _ (Builtin.Dict.showsAll a >>= _) _ _ s
  unfold Builtin.Dict.showsAll
  rw [if_neg (by rw [hsys]; exact Bool.false_ne_true)]
  refine wpAny_bind (wpAny_pure ?_)
  refine wpAny_bind (wpAny_dictEpoch h1 h3 ?_)
  refine wpAny_bind (wpAny_dictEntries h1 h3 ?_)
  refine wpAny_bind ?_
  rw [Std.Legacy.Range.forIn_eq_forIn_range']
  simp only [Std.Legacy.Range.size, Nat.sub_zero, Nat.add_sub_cancel, Nat.div_one]
  refine wpAny_forIn_list _
    (fun rest' r s' => ∃ i H2, rest' = List.range' i (es.size - i) ∧ i ≤ es.size ∧ r = (⟨(ps.take i).toArray, base + piled (ps.take i)⟩ : (Array Str × Nat)) ∧ Inv X pins σ H2 s' ∧ Same (upd H1 a (.frz o (.dK kvs))) H2)
    _ ?_ ?_ _ _ ⟨0, _, by simp, Nat.zero_le _, by simp [piled], IL, Same.refl _⟩
  · rintro x rest' _ s' ⟨i, H2, hr, hi, rfl, I2, hs2⟩
    have hlt : i < es.size := by
      rcases Nat.lt_or_ge i es.size with h | h
      · exact h
      · rw [Nat.sub_eq_zero_of_le h] at hr; simp at hr
    obtain ⟨rfl, hrest⟩ : x = i ∧ rest' = List.range' (i + 1) (es.size - (i + 1)) := by
      have e : es.size - i = (es.size - (i + 1)) + 1 := by omega
      rw [e, List.range'_succ] at hr
      injection hr with h1 h2
      exact ⟨h1, h2⟩
    have hlt2 : x < kvs.length := by omega
    obtain ⟨tk, tv, hp, rk, rv⟩ := r.2 x kvs[x] (List.getElem?_eq_getElem hlt2)
    obtain ⟨ek, ev⟩ := hent x kvs[x] es[x] (List.getElem?_eq_getElem hlt2) (Array.getElem?_eq_getElem hlt)
    have hpl : (tk ++ ": " ++ tv).length = tk.length + 2 + tv.length := by
      rw [strLen_append, strLen_append]; rfl
    have hp1 := piled_take_succ hp
    have hp2 := piled_take_le ps (x + 1)
    rw [hpl] at hp1
    obtain ⟨g1, _⟩ := (show ObjOk X.prog X.w H2 s'.heap a (.frz o (.dK kvs)) from I2.hok a _ (hs2 _ _ upd_same))
    refine wpAny_bind (wpAny_dictEntries g1 h3 ?_)
    rw [Array.getElem?_eq_getElem hlt]
    refine wpAny_bind (wpAny_holding (wpAny_bind (rk _ ek (base + piled (ps.take x) + 1) (by omega) _ _ _ _ fun tk1 => ?_)))
    have I2 := I2.tok tk1
    refine wpAny_bind (rv (base + piled (ps.take x) + (tk.length + 3)) _ _ pins σ _ H2 _ _ (by omega) a2 I2 (hsL.trans hs2) ev fun s3 H3 I3 hs3 => wpAny_pure ?_)
    have hs13 := hs2.trans hs3
    obtain ⟨g2, _⟩ := (show ObjOk X.prog X.w H3 s3.heap a (.frz o (.dK kvs)) from I3.hok a _ (hs13 _ _ upd_same))
    refine wpAny_bind (wpAny_dictEpoch g2 h3 ?_)
    rw [if_neg (by simp)]
    have e1 : (ps.take x).toArray.push (tk ++ ": " ++ tv) = (ps.take (x + 1)).toArray := by
      rw [List.take_add_one, hp]
      simp
    have e2 : base + piled (ps.take x) + (tk.length + tv.length + 4) = base + piled (ps.take (x + 1)) := by omega
    refine wpAny_pure ⟨x + 1, H3, hrest, hlt, ?_, I3, hs13⟩
    rw [e1, e2]
  · rintro _ s' ⟨i, H2, hr, hi, rfl, I2, hs2⟩
    have hin : i = es.size := by
      rcases Nat.lt_or_ge i es.size with h | h
      · have e : es.size - i = (es.size - (i + 1)) + 1 := by omega
        rw [e, List.range'_succ] at hr; exact nomatch hr
      · exact Nat.le_antisymm hi h
    rw [hin, ← hlen, List.take_length]
    refine wpAny_bind (wpAny_mkStr (wpAny_pure ?_) (by simpa [dictText] using hsz0))
    have IU := I2.unlock (hs2 _ _ upd_same) (I.nofrz ha1 trivial)
    have hsU : Same H1 (upd H2 a (.dK kvs)) := fun b u e => by
      by_cases hb : b = a
      · subst hb; rw [ha1] at e; cases e; exact upd_same
      · rw [upd_ne hb]; exact hs2 _ _ (by rw [upd_ne hb]; exact e)
    have h1 := hR _ _ s'.toks (IU.tok (s'.toks + 1)) hsU
    simpa [dictText] using h1
theorem RpU.dct (hno : hitD G0 a = false) (hn : ¬ S a) (ha : H a = some (.dK kvs)) (r : RpEnt X G0 k S (hide a H) kvs ps) : RpU X G0 (k + 1) (fun b => b = a ∨ S b) H (.ref a) (dictText ps) := by
  intro base A E pins σ s H1 u Q hb at_ I hs rv hq
  obtain rfl : u = Value.ref a := rv
  obtain ⟨o, h1⟩ : ∃ o, s.heap.get? a = some o := by
    obtain ⟨_, _, _, _, o, _, _, e, _⟩ := (show ObjOk X.prog X.w H1 s.heap a (.dK kvs) from I.hok a _ (hs _ _ ha))
    exact ⟨o, e⟩
  obtain ⟨_, _, h2, _⟩ := dct_ent (show ObjOk X.prog X.w H1 s.heap a (.dK kvs) from I.hok a _ (hs _ _ ha)) h1
  have hT : s.TypeIs (.ref a) "dict" := ⟨o, h1, h2⟩
  refine wpAny_pyReprUnder_ref (by omega) (wpAny_pyReprObjUnder_twin (twin := "dict.__repr__.under") hT F.slot_dict_repr rfl (by have := at_.room.un; omega)
    (call_twin_own (F.quiet_dict_repr_under _) F.entry_dict_repr_under F.check_dict_repr_under hT F.slot_dict_repr (F.args_dict_repr_1 _) ?_))
  exact own_dct hno hn ha r (isGuard_dict_repr_under _) (weight_dctU _) (units_under_dict_repr_under _ _) at_ I hs hb fun s' H2 u I2 hs2 => ⟨⟨_, _, rfl⟩, _, _, rfl, hq s' H2 I2 hs2⟩
theorem RpT.dct (hno : hitD G0 a = false) (hn : ¬ S a) (ha : H a = some (.dK kvs)) (r : RpEnt X G0 k S (hide a H) kvs ps) : RpT X G0 (k + 2) H (.ref a) (dictText ps) := by
  intro A E pins σ s H1 u Q hz hg hf hr I hs rv hq
  obtain rfl : u = Value.ref a := rv
  obtain ⟨o, h1⟩ : ∃ o, s.heap.get? a = some o := by
    obtain ⟨_, _, _, _, o, _, _, e, _⟩ := (show ObjOk X.prog X.w H1 s.heap a (.dK kvs) from I.hok a _ (hs _ _ ha))
    exact ⟨o, e⟩
  obtain ⟨_, _, h2, _⟩ := dct_ent (show ObjOk X.prog X.w H1 s.heap a (.dK kvs) from I.hok a _ (hs _ _ ha)) h1
  have hT : s.TypeIs (.ref a) "dict" := ⟨o, h1, h2⟩
  have at_ : At X G0 (k + 2) A (fun b => b = a ∨ S b) := ⟨hf, hr, [], hg, fun b _ => Clear.nil b⟩
  refine call_repr_slot (by have := hr.un; omega) hT F.slot_dict_repr ?_
  refine wpAny_call (codeAny_call_builtin_own (Code.quiet_builtin _ (by decide +kernel)) F.entry_dict_repr (F.slot_dict_repr.check _ _ _ _ _ _ _ _ hT (F.args_dict_repr_1 _) ?_))
  exact own_dct (base := 0) (rest := []) (R := callEnd (fun v s' => ∃ x t, v = Value.str x t ∧ Q v s') E) hno hn ha r (isGuard_dict_repr _) (weight_dct _) (units_under_dict_repr _ _) at_.in1 I hs (by omega) fun s' H2 u I2 hs2 => ⟨_, _, rfl, hq s' H2 _ I2 hs2⟩
/-! a frame below is at work on it -/
theorem hit_tup {A : Around} {s : Shared} {H1 : Hp} {pins : List (Addr × Obj)} {σ : L2.St} {R : Result → Shared → Prop} {base : Nat} {c : Code} (hit : hitT G0 a = true) (at_ : At X G0 k A S) (I : Inv X pins σ H1 s) (hR : ∀ s' u, Inv X pins σ H1 s' → R (.ok (.ret (.str "(...)" u))) s') :
    wpOwn (model X.prog X.w) A c (Builtin.tupleReprAt base ⟨[.ref a], []⟩) (fun fin s' => match fin with | .done f => R (.ok f) s' | .again c' => c'.quiet = true ∧ codeAny (model X.prog X.w) A c' R s') (fun e s' => R (.error e) s') s := by
  obtain ⟨g, hg, hcl⟩ := at_.gd
  rw [tuple_repr_tree, tupleReprUnderWay_eq]
  refine wpOwn_bind (wpOwn_stackTailAny hg (tupGuardF_off _) (tupGuardF_pos _) ?_)
  rw [List.any_append, show (G0.any fun c => tupGuardF (.ref a) (c, default)) = true from hit, Bool.or_true, if_pos rfl]
  refine wpOwn_of_wpAny (wpAny_bind (wpAny_rule ?_))
  refine wpAny_bind (wpAny_mkStr (wpAny_pure ?_) (by decide +kernel))
  exact hR _ s.toks (I.tok (s.toks + 1))
theorem hit_dct {A : Around} {s : Shared} {H1 : Hp} {pins : List (Addr × Obj)} {σ : L2.St} {R : Result → Shared → Prop} {base : Nat} {c : Code} (hit : hitD G0 a = true) (hTy : s.TypeIs (.ref a) "dict") (at_ : At X G0 k A S) (I : Inv X pins σ H1 s) (hR : ∀ s' u, Inv X pins σ H1 s' → R (.ok (.ret (.str "{...}" u))) s') :
    wpOwn (model X.prog X.w) A c (Builtin.dictReprAt base ⟨[.ref a], []⟩) (fun fin s' => match fin with | .done f => R (.ok f) s' | .again c' => c'.quiet = true ∧ codeAny (model X.prog X.w) A c' R s') (fun e s' => R (.error e) s') s := by
  obtain ⟨g, hg, hcl⟩ := at_.gd
  unfold Builtin.dictReprAt
  refine wpOwn_bind (wpOwn_of_wpAny ?_)
  unfold Builtin.Dict.dictSlotNone
  refine wpAny_bind (wpAny_notOrdered_dict hTy ?_)
  show wpAny _ _ (pure (Value.ref a)) _ _ s
  refine wpAny_pure ?_
  rw [dictReprRunning_eq]
  refine wpOwn_bind (wpOwn_stackTailAny hg (dictGuardF_off _) (dictGuardF_pos _) ?_)
  rw [List.any_append, show (G0.any fun c => dictGuardF (.ref a) (c, default)) = true from hit, Bool.or_true, if_pos rfl]
  refine wpOwn_of_wpAny (wpAny_bind (wpAny_rule ?_))
  refine wpAny_bind (wpAny_mkStr (wpAny_pure ?_) (by decide +kernel))
  exact hR _ s.toks (I.tok (s.toks + 1))
theorem RpU.tupHit {xs : List V} (ha : H a = some (.tup xs)) (hit : hitT G0 a = true) : RpU X G0 0 (fun _ => False) H (.ref a) "(...)" := by
  intro base A E pins σ s H1 u Q hb at_ I hs rv hq
  obtain rfl : u = Value.ref a := rv
  obtain ⟨o, its, n, h1, h2, h3, rv⟩ := tup_at I (hs _ _ ha)
  have hT : s.TypeIs (.ref a) "tuple" := ⟨o, h1, h2⟩
  refine wpAny_pyReprUnder_ref (by omega) (wpAny_pyReprObjUnder_twin (twin := "tuple.__repr__.under") hT F.slot_tuple_repr rfl (by have := at_.room.un; omega)
    (call_twin_own (F.quiet_tuple_repr_under _) F.entry_tuple_repr_under F.check_tuple_repr_under hT F.slot_tuple_repr (F.args_tuple_repr_1 _) ?_))
  exact hit_tup hit at_ I fun s' u I2 => ⟨⟨_, _, rfl⟩, _, _, rfl, hq s' H1 I2 (Same.refl _)⟩
theorem RpT.tupHit {xs : List V} (ha : H a = some (.tup xs)) (hit : hitT G0 a = true) : RpT X G0 1 H (.ref a) "(...)" := by
  intro A E pins σ s H1 u Q hz hg hf hr I hs rv hq
  obtain rfl : u = Value.ref a := rv
  obtain ⟨o, its, n, h1, h2, h3, rv⟩ := tup_at I (hs _ _ ha)
  have hT : s.TypeIs (.ref a) "tuple" := ⟨o, h1, h2⟩
  have at_ : At X G0 1 A (fun _ => False) := ⟨hf, hr, [], hg, fun b z => z.elim⟩
  refine call_repr_slot (by have := hr.un; omega) hT F.slot_tuple_repr ?_
  refine wpAny_call (codeAny_call_builtin_own (Code.quiet_builtin _ (by decide +kernel)) F.entry_tuple_repr (F.slot_tuple_repr.check _ _ _ _ _ _ _ _ hT (F.args_tuple_repr_1 _) ?_))
  exact hit_tup (base := 0) (R := callEnd (fun v s' => ∃ x t, v = Value.str x t ∧ Q v s') E) hit at_.in1 I fun s' u I2 => ⟨_, _, rfl, hq s' H1 _ I2 (Same.refl _)⟩
theorem RpU.dctHit (ha : H a = some (.dK kvs)) (hit : hitD G0 a = true) : RpU X G0 0 (fun _ => False) H (.ref a) "{...}" := by
  intro base A E pins σ s H1 u Q hb at_ I hs rv hq
  obtain rfl : u = Value.ref a := rv
  obtain ⟨o, h1⟩ : ∃ o, s.heap.get? a = some o := by
    obtain ⟨_, _, _, _, o, _, _, e, _⟩ := (show ObjOk X.prog X.w H1 s.heap a (.dK kvs) from I.hok a _ (hs _ _ ha))
    exact ⟨o, e⟩
  obtain ⟨_, _, h2, _⟩ := dct_ent (show ObjOk X.prog X.w H1 s.heap a (.dK kvs) from I.hok a _ (hs _ _ ha)) h1
  have hT : s.TypeIs (.ref a) "dict" := ⟨o, h1, h2⟩
  refine wpAny_pyReprUnder_ref (by omega) (wpAny_pyReprObjUnder_twin (twin := "dict.__repr__.under") hT F.slot_dict_repr rfl (by have := at_.room.un; omega)
    (call_twin_own (F.quiet_dict_repr_under _) F.entry_dict_repr_under F.check_dict_repr_under hT F.slot_dict_repr (F.args_dict_repr_1 _) ?_))
  exact hit_dct hit hT at_ I fun s' u I2 => ⟨⟨_, _, rfl⟩, _, _, rfl, hq s' H1 I2 (Same.refl _)⟩
theorem RpT.dctHit (ha : H a = some (.dK kvs)) (hit : hitD G0 a = true) : RpT X G0 1 H (.ref a) "{...}" := by
  intro A E pins σ s H1 u Q hz hg hf hr I hs rv hq
  obtain rfl : u = Value.ref a := rv
  obtain ⟨o, h1⟩ : ∃ o, s.heap.get? a = some o := by
    obtain ⟨_, _, _, _, o, _, _, e, _⟩ := (show ObjOk X.prog X.w H1 s.heap a (.dK kvs) from I.hok a _ (hs _ _ ha))
    exact ⟨o, e⟩
  obtain ⟨_, _, h2, _⟩ := dct_ent (show ObjOk X.prog X.w H1 s.heap a (.dK kvs) from I.hok a _ (hs _ _ ha)) h1
  have hT : s.TypeIs (.ref a) "dict" := ⟨o, h1, h2⟩
  have at_ : At X G0 1 A (fun _ => False) := ⟨hf, hr, [], hg, fun b z => z.elim⟩
  refine call_repr_slot (by have := hr.un; omega) hT F.slot_dict_repr ?_
  refine wpAny_call (codeAny_call_builtin_own (Code.quiet_builtin _ (by decide +kernel)) F.entry_dict_repr (F.slot_dict_repr.check _ _ _ _ _ _ _ _ hT (F.args_dict_repr_1 _) ?_))
  exact hit_dct (base := 0) (R := callEnd (fun v s' => ∃ x t, v = Value.str x t ∧ Q v s') E) hit hT at_.in1 I fun s' u I2 => ⟨_, _, rfl, hq s' H1 _ I2 (Same.refl _)⟩
end
end K18R

/-! k04: the texts of what is heard and what is due. -/
namespace K5
open PySem PySem.Spec PyProof.Rows L2 LamX L2H K1 K18 K18R

/-- the text of a value that is told -/
def tellT (n0 : Str) : V → Str
  | .non => "None"
  | .bl b => if b then "True" else "False"
  | .int n => toString n
  | .str s => reprText s
  | _ => listText [reprText n0]
def TellOk (n0 : Str) (H : Hp) : V → Prop
  | .non => True
  | .bl _ => True
  | .int n => n.natAbs < 2 ^ 200
  | .str s => (reprText s).length ≤ 1000
  | .ref l => H l = some (.lst [.str n0]) ∧ (reprText n0).length ≤ 1000
  | _ => False
def PairOk (n0 : Str) (H : Hp) : Option (V × V) → Prop
  | some (.str s, y) => (reprText s).length ≤ 1000 ∧ TellOk n0 H y
  | _ => False
def pairT (n0 : Str) : Option (V × V) → Str
  | some (x, y) => tupleText [tellT n0 x, tellT n0 y]
  | none => "None"
theorem TellOk.extN {n0 : Str} {H H' : Hp} {y : V} (x : ExtN H H') (h : TellOk n0 H y) : TellOk n0 H' y := by
  cases y with
  | ref l => exact ⟨x _ _ h.1 (fun _ z => nomatch z), h.2⟩
  | _ => exact h
theorem PairOk.extN {n0 : Str} {H H' : Hp} {o : Option (V × V)} (x : ExtN H H') (h : PairOk n0 H o) : PairOk n0 H' o := by
  match o, h with
  | some (.str s, y), h => exact ⟨h.1, h.2.extN x⟩
theorem log_200 {n : Int} (h : n.natAbs < 2 ^ 200) : n.natAbs.log2 < 1920 := Nat.lt_of_lt_of_le (PySem.Flt.log2_lt_of (by decide) h) (by decide)
theorem tell_len {n0 : Str} {H : Hp} {y : V} (h : TellOk n0 H y) : (tellT n0 y).length ≤ 2000 := by
  cases y with
  | non => show (PySem.Str.ofString "None").length ≤ 2000; decide +kernel
  | bl b => cases b <;> (show (PySem.Str.ofString _).length ≤ 2000; decide +kernel)
  | int n =>
    have := PyProof.Rows.int_text_len_1921 (log_200 h)
    show (PySem.Str.ofString (toString n)).length ≤ 2000
    omega
  | str s => have z : (reprText s).length ≤ 1000 := h; show (reprText s).length ≤ 2000; omega
  | ref l =>
    have := listText_len_le [reprText n0]
    have z := h.2
    show (listText [reprText n0]).length ≤ 2000
    simp at this
    omega
  | byt b => exact h.elim
  | flt b => exact h.elim
  | ty n => exact h.elim
theorem rp_tell {X : Cx} {n0 : Str} {H : Hp} {a t : Addr} {xs : List V} {o : HO} {y : V} (ha : H a = some (.lst xs)) (l2 : 2 ≤ xs.length) (ht : H t = some o) (nt : ∀ zs, o ≠ .lst zs) (h : TellOk n0 H y) : RpU X [] 1 (fun b => b ≠ a ∧ b ≠ t) H y (tellT n0 y) := by
  have sz : sizeLine = 16777216 := sizeLine_eq
  cases y with
  | non => exact RpU.none.more (by omega) fun b z => z.elim
  | bl b => exact RpU.bool.more (by omega) fun b z => z.elim
  | int n => exact (RpU.int (log_200 h)).more (by omega) fun b z => z.elim
  | str s => exact (RpU.str (by have z : (reprText s).length ≤ 1000 := h; omega)).more (by omega) fun b z => z.elim
  | ref l =>
    obtain ⟨e, z⟩ := h
    refine (RpU.lst (k := 0) (S := fun _ => False) (G0 := []) rfl (fun z => z) e ⟨rfl, fun i x ex => ?_⟩).more (by omega) fun b hb => ?_
    · match i, ex with
      | 0, ex => cases ex; exact ⟨_, rfl, RpU.str (by omega)⟩
    · rcases hb with rfl | hb
      · refine ⟨fun w => ?_, fun w => ?_⟩
        · rw [w, ha] at e
          cases e
          exact absurd l2 (by simp)
        · rw [w, ht] at e
          exact nt _ (Option.some.inj e)
      · exact hb.elim
  | byt b => exact h.elim
  | flt b => exact h.elim
  | ty n => exact h.elim
theorem rp_pair {X : Cx} {n0 : Str} {H : Hp} {a : Addr} {xs : List V} {v : V} {o : Option (V × V)} (ha : H a = some (.lst xs)) (l2 : 2 ≤ xs.length) (it : It H v o) (h : PairOk n0 H o) : RpU X [] 2 (fun b => b ≠ a) H v (pairT n0 o) := by
  match o, h, it with
  | some (.str s, y), ⟨h1, h2⟩, ⟨t, e, z⟩ =>
    subst e
    refine (RpU.tup (k := 1) (S := fun b => b ≠ a ∧ b ≠ t) (G0 := []) rfl (fun q => q.2 rfl) z ⟨rfl, fun i x ex => ?_⟩).more (by omega) fun b hb => ?_
    · match i, ex with
      | 0, ex => cases ex; exact ⟨_, rfl, rp_tell (n0 := n0) (y := .str s) ha l2 z (fun _ w => nomatch w) h1⟩
      | 1, ex => cases ex; exact ⟨_, rfl, rp_tell ha l2 z (fun _ w => nomatch w) h2⟩
    · rcases hb with rfl | hb
      · exact ne_of z ha (fun w => nomatch w)
      · exact hb.1
theorem pair_len {n0 : Str} {H : Hp} {o : Option (V × V)} (h : PairOk n0 H o) : (pairT n0 o).length ≤ 4010 := by
  match o, h with
  | some (.str s, y), ⟨h1, h2⟩ =>
    have z1 := tell_len (n0 := n0) (H := H) (y := .str s) h1
    have z2 := tell_len h2
    have z := tupleText_len_le [tellT n0 (.str s), tellT n0 y]
    show (tupleText [tellT n0 (.str s), tellT n0 y]).length ≤ 4010
    simp at z
    omega
theorem pairs_len {n0 : Str} {H : Hp} : ∀ {os : List (Option (V × V))}, (∀ o ∈ os, PairOk n0 H o) → ((os.map (pairT n0)).map (·.length)).sum ≤ 4010 * os.length
  | [], _ => by simp
  | o :: os, h => by
    have z1 := pair_len (h o List.mem_cons_self)
    have z2 := pairs_len fun y m => h y (List.mem_cons_of_mem _ m)
    rw [List.map_cons, List.map_cons, List.sum_cons, List.length_cons]
    omega
theorem rp_list {X : Cx} {n0 : Str} {H : Hp} {a : Addr} {vs : List V} {os : List (Option (V × V))} (ha : H a = some (.lst vs)) (al : All2 (It H) vs os) (h : ∀ o ∈ os, PairOk n0 H o) (l2 : 2 ≤ os.length) (l100 : os.length ≤ 100) :
    RpT X [] 4 H (.ref a) (listText (os.map (pairT n0))) ∧ (listText (os.map (pairT n0))).length ≤ sizeLine := by
  have sz : sizeLine = 16777216 := sizeLine_eq
  constructor
  · have lv := al.1
    match vs, ha, al, lv with
    | [], _, _, lv => simp at lv; omega
    | x0 :: r0, ha, al, lv =>
      refine RpT.lst (k := 2) (S := fun b => b ≠ a) (G0 := []) rfl (fun q => q rfl) ha ⟨by rw [List.length_map]; exact lv.symm, fun i x ex => ?_⟩
      obtain ⟨o, eo, it⟩ := al.get ex
      exact ⟨_, by rw [List.getElem?_map, eo]; rfl, rp_pair ha (by omega) it (h o (List.mem_of_getElem? eo))⟩
  · have z := listText_len_le (os.map (pairT n0))
    have z2 := pairs_len h
    rw [List.length_map] at z
    omega
/-- texts of two lists of the same -/
theorem It.all {H H' : Hp} {vs : List V} {os : List (Option (V × V))} (x : ExtN H H') (al : All2 (It H) vs os) : All2 (It H') vs os := al.mono fun _ _ z => z.extN x
theorem all2_app {α β : Type} {R : α → β → Prop} {xs xs' : List α} {ys ys' : List β} (h : All2 R xs ys) (h' : All2 R xs' ys') : All2 R (xs ++ xs') (ys ++ ys') := by
  refine ⟨by rw [List.length_append, List.length_append, h.1, h'.1], fun i x y ex ey => ?_⟩
  by_cases li : i < xs.length
  · rw [List.getElem?_append_left li] at ex
    rw [List.getElem?_append_left (by rw [← h.1]; exact li)] at ey
    exact h.2 i x y ex ey
  · rw [List.getElem?_append_right (by omega)] at ex
    rw [List.getElem?_append_right (by rw [← h.1]; omega), ← h.1] at ey
    exact h'.2 _ x y ex ey
theorem all2_rep {α β : Type} {R : α → β → Prop} {xs : List α} {ys : List β} (h : All2 R xs ys) : ∀ n, All2 R (List.replicate n xs).flatten (List.replicate n ys).flatten
  | 0 => All2.nil
  | n + 1 => by rw [List.replicate_succ, List.replicate_succ, List.flatten_cons, List.flatten_cons]; exact all2_app h (all2_rep h n)
/-- an empty list -/
theorem hd_emp {T : List (Addr × Str)} {HA : Hp} {T0 : TS} {D : Ends} {σ : L2.St} {i : Nat} (tbA : Tabs T HA) (next : ∀ L H', Hd T HA L [] H' → T0 D (σ.set i (some (.ref L))) H') : tSeq (tAsg (tLst tNil) (gName i)) T0 D σ HA := by
  have sz : sizeLine = 16777216 := sizeLine_eq
  refine ⟨(by show 0 ≤ sizeLine; omega), fun L nL => next L _ ?_⟩
  have s4 := upd_new (o := .lst []) nL
  exact ⟨Same.extN s4, tabs_same s4 tbA, fun b o e n => ne_of_none e nL, _, upd_same, All2.nil⟩
end K5

/-! k04: texts that are no stranger's name. -/
namespace K5
open PySem PySem.Spec PyProof.Rows L2 LamX K1 K18 K4

theorem Nm.low {n : Str} (h : Nm n) : ∀ c ∈ n.cps.toList, c < 128 := fun c m => by
  have := h.al c m
  unfold isL isD at this
  rcases this with z | z <;> (have := of_decide_eq_true z; omega)
theorem repr_low {x : Str} (h : ∀ c ∈ x.cps.toList, c < 128) (l : x.length ≤ 90) : (reprText x).length ≤ 1000 := by
  have := PySem.StrLaws.reprText_len x fun c m => Nat.lt_of_lt_of_le (h c m) (by decide)
  omega
def nineX : Str := Str.ofString "xxxxxxxxx"
theorem nineX_l : nineX.cps.toList = List.replicate 9 120 := by decide +kernel
theorem long_not {ns : List Str} (dr : ∀ n ∈ ns, Drwn n) {n0 : Str} (h0 : Nm n0) : (n0 ++ nineX) ∉ ns := fun m => by
  have lx : nineX.length = 9 := by decide +kernel
  have tl : (n0 ++ nineX).cps.toList = n0.cps.toList ++ List.replicate 9 120 := by
    rw [← nineX_l]
    show (n0.cps ++ nineX.cps).toList = _
    simp
  obtain ⟨l, e, nl, h⟩ := dr _ m
  have el : l = n0.cps.toList ++ List.replicate 9 120 := by rw [← tl, e]
  have z1 := h0.l1
  have l0 : n0.cps.toList.length = n0.length := by simp [Str.length]
  rcases h with h | ⟨st, s, es, _, hs⟩
  · rw [el, List.length_append, List.length_replicate] at h
    omega
  · rw [el] at es
    have e2 := congrArg List.getLast? es
    rw [List.getLast?_append, List.getLast?_append] at e2
    simp at e2
    rw [← e2] at hs
    exact absurd hs (by decide)
theorem long_low {n0 : Str} (h0 : Nm n0) : (∀ c ∈ (n0 ++ nineX).cps.toList, c < 128) ∧ (n0 ++ nineX).length ≤ 90 := by
  have lx : nineX.length = 9 := by decide +kernel
  constructor
  · intro c m
    have tl : (n0 ++ nineX).cps.toList = n0.cps.toList ++ List.replicate 9 120 := by
      rw [← nineX_l]
      show (n0.cps ++ nineX.cps).toList = _
      simp
    rw [tl] at m
    rcases List.mem_append.mp m with m | m
    · exact Nm.low h0 c m
    · rw [List.eq_of_mem_replicate m]; decide
  · rw [strLen_append, lx]; have := h0.l2; omega
theorem up_low {n0 : Str} (h0 : Nm n0) : (∀ c ∈ (Txt.upper n0).cps.toList, c < 128) ∧ (Txt.upper n0).length ≤ 90 := by
  rw [upper_ascii (Nm.low h0)]
  constructor
  · intro c m
    rw [Array.toList_map] at m
    obtain ⟨d, md, rfl⟩ := List.mem_map.mp m
    have := Nm.low h0 d md
    unfold up1
    split <;> omega
  · have := h0.l2
    show (n0.cps.map up1).size ≤ 90
    rw [Array.size_map]
    have e : n0.cps.size = n0.length := rfl
    omega
theorem up_not {ns : List Str} (nm : ∀ n ∈ ns, Nm n) {n0 : Str} (h0 : Nm n0) : Txt.upper n0 ∉ ns := fun m => by
  obtain ⟨c, hc, lc⟩ := (nm _ m).hd
  obtain ⟨d, hd, ld⟩ := h0.hd
  rw [upper_ascii (Nm.low h0), Array.toList_map, List.getElem?_map, hd] at hc
  have e : up1 d = c := Option.some.inj hc
  unfold isL at lc ld
  have z1 := of_decide_eq_true lc
  have z2 := of_decide_eq_true ld
  rw [← e] at z1
  unfold up1 at z1
  rw [if_pos z2] at z1
  omega
theorem emp_not {ns : List Str} (nm : ∀ n ∈ ns, Nm n) : (Str.ofString "") ∉ ns := fun m => absurd (nm _ m).l1 (by decide +kernel)
/-- a value that is no stranger's name, and is told -/
structure StrV (K : PySem.W.Frag) (ns : List Str) (n0 : Str) (H : Hp) (v : V) : Prop where
  st : Strange K H ns v
  tl : TellOk n0 H v
theorem Strange.extN {K : PySem.W.Frag} {H H' : Hp} {ns : List Str} {v : V} (x : ExtN H H') (h : Strange K H ns v) : Strange K H' ns v := h.imp (fun ⟨t, ty, k⟩ => ⟨t, TyOf.extN x ty, k⟩) id
theorem StrV.extN {K : PySem.W.Frag} {ns : List Str} {n0 : Str} {H H' : Hp} {v : V} (x : ExtN H H') (h : StrV K ns n0 H v) : StrV K ns n0 H' v := ⟨Strange.extN x h.st, h.tl.extN x⟩
section
variable {K : PySem.W.Frag} {ns : List Str} {n0 : Str} {H : Hp}
theorem sv_emp (nm : ∀ n ∈ ns, Nm n) : StrV K ns n0 H (.str (Str.ofString "")) := ⟨.inr ⟨_, rfl, by decide +kernel, emp_not nm⟩, (show (reprText _).length ≤ 1000 by decide +kernel)⟩
theorem sv_non : StrV K ns n0 H .non := ⟨.inl (NotStr.of .non (by simp)), trivial⟩
theorem sv_three : StrV K ns n0 H (.int 3) := ⟨.inl (NotStr.of (.int _) (by simp)), (show (3 : Int).natAbs < 2 ^ 200 by decide)⟩
theorem sv_long (dr : ∀ n ∈ ns, Drwn n) (h0 : Nm n0) : StrV K ns n0 H (.str (n0 ++ nineX)) := ⟨.inr ⟨_, rfl, by have := (long_low h0).2; omega, long_not dr h0⟩, repr_low (long_low h0).1 (long_low h0).2⟩
theorem sv_up (nm : ∀ n ∈ ns, Nm n) (h0 : Nm n0) : StrV K ns n0 H (.str (Txt.upper n0)) := ⟨.inr ⟨_, rfl, by have := (up_low h0).2; omega, up_not nm h0⟩, repr_low (up_low h0).1 (up_low h0).2⟩
theorem sv_lst {l : Addr} (h0 : Nm n0) (e : H l = some (.lst [.str n0])) : StrV K ns n0 H (.ref l) := ⟨.inl (NotStr.of (.lst e) (by simp)), e, repr_low (Nm.low h0) (by have := h0.l2; omega)⟩
theorem sv_true : StrV K ns n0 H (.bl true) := ⟨.inl (NotStr.of (.bl _) (by simp)), trivial⟩
end
end K5

/-! k04: defs that are run where nothing below shows a value. -/
namespace K5
open PySem PySem.Spec PyProof.Rows L2 LamX K1 K18

/-- what a def keeps, where nothing below is being shown -/
structure FnG (P : Program) (w : World) (K : PySem.W.Frag) (mg : Str → Option Value) (base : Heap) (CX : CXT) (k : Nat) (f : Addr) (fd : FuncData) (ps : List Str) (sp : Sp) : Prop where
  ln : ∀ vs H Q E, sp vs H Q E → vs.length = ps.length
  go : ∀ (A : Around) (outer : List Env) (s : Shared) (H : Hp) (args : Args) (us : List Value) (vs : List V) (Q : VK) (E : XK),
    A.guards = some [] → Room k A → Env0 P w K mg base A outer s H → BindsTo s fd args (ps.zip us) → Vals vs us → sp vs H Q E → codeAny (model P w) A (.call (.ref f) args) (CR CX outer P w H s Q E) s
/-- a def of the program, its code at c -/
structure DefC (K : PySem.W.Frag) (x qual : Str) (st : Stmt) (f : Addr) (fd : FuncData) (c : Addr) : Prop where
  ex : ∃ (oc : Value) (od : Option Addr) (dV kV doc pm : Value) (an : Option Addr) (ct : Value) (osl : Array (Option Value)),
    fd = PySem.W.fnOf x qual (defArgs st) (defBody st) (defScope st) dV kV doc pm an (.ref c) ct ∧ K.lookup f = some ⟨oc, od, .func fd, osl⟩ ∧ PySem.W.codeIn K (.ref c) qual = true
section
variable {P : Program} {w : World} {K : PySem.W.Frag} {mg : Str → Option Value} {base : Heap} {x qual : Str} {st : Stmt} {f c : Addr} {fd : FuncData} {N ps : List Str} {k : Nat} {sp : Sp}
theorem okGC (D : DefC K x qual st f fd c) (S : FnScope N ps (defScope st)) (len : ∀ vs H Q E, sp vs H Q E → vs.length = ps.length)
    (hb : ∀ (A : Around) (outer : List Env) (s : Shared) (H : Hp) (vs : List V) (Q : VK) (E : XK), A.guards = some [] → Room k (A.deeper (envOfC qual (defScope st) s.heap.objs.size f (.ref c))) → sp vs H Q E →
      ∃ t, PSs (cxOf CX0 P w K mg base N qual (defScope st) f (.ref c) A outer s H E).nox (defBody st) t ∧ t { nx := fun _ H' => Q .non H', rt := Q } (start N vs) H) : FnG P w K mg base CX0 (k + 1) f fd ps sp := by
  obtain ⟨oc, od, dV, kV, doc, pm, an, ct, osl, rfl, lk, hcd⟩ := D.ex
  refine ⟨len, fun A outer s H args us vs Q E gd hr e0 hbd r hsp => run_ofS lk hcd S hr e0 hbd r (len _ _ _ _ hsp) fun hr2 => ?_⟩
  obtain ⟨t, h1, h2⟩ := hb A outer s H vs Q E gd hr2 hsp
  exact ⟨t, h1.nox, h2⟩
theorem okG (F : DefAt K x qual st f fd) (S : FnScope N ps (defScope st)) (len : ∀ vs H Q E, sp vs H Q E → vs.length = ps.length)
    (hb : ∀ (cdv : Value) (A : Around) (outer : List Env) (s : Shared) (H : Hp) (vs : List V) (Q : VK) (E : XK), A.guards = some [] → Room k (A.deeper (envOfC qual (defScope st) s.heap.objs.size f cdv)) → sp vs H Q E →
      ∃ t, PSs (cxOf CX0 P w K mg base N qual (defScope st) f cdv A outer s H E).nox (defBody st) t ∧ t { nx := fun _ H' => Q .non H', rt := Q } (start N vs) H) : FnG P w K mg base CX0 (k + 1) f fd ps sp := by
  obtain ⟨oc, od, dV, kV, doc, pm, an, cdv, ct, osl, rfl, lk, hcd, _, _⟩ := F.ex
  refine ⟨len, fun A outer s H args us vs Q E gd hr e0 hbd r hsp => run_ofS lk hcd S hr e0 hbd r (len _ _ _ _ hsp) fun hr2 => ?_⟩
  obtain ⟨t, h1, h2⟩ := hb cdv A outer s H vs Q E gd hr2 hsp
  exact ⟨t, h1.nox, h2⟩
end
/-- a call of such a def, where nothing below is being shown -/
theorem pe_callG {X : Cx} {k : Nat} {f : Addr} {fd : FuncData} {ps : List Str} {sp : Sp} {x : Str} {p pos : Pos} {e : Expr} {es : List Expr} {t : TA} (F : FnG X.prog X.w X.K X.mg X.base CX0 k f fd ps sp) (gd : X.A.guards = some []) (hr : Room k X.A) (hg : Gl X x) (hm : X.mg x = some (.ref f)) (hk : PySem.W.keepIn X.K (.ref f) = true) (hb : Binds X.K fd ps []) (ha : PA X (e :: es) t)
    (hdb : (x == ("__debug__" : Str)) = false := by decide) (he : starEach (e :: es) X.env = (false, eval e X.env) :: starEach es X.env := by rfl) (hpl : (backTo pos (starEach es X.env)).any (·.1) = false := by rfl) : PE X (.Call (.Name x p) (e :: es) [] pos) (tCall sp [] E0 t) := by
  have callee : ∀ {pn : List (Addr × Obj)} {τ : L2.St} {G : Hp} {s1 : Shared} {R : VK} {ws : List Value} {ys : List V}, Inv X pn τ G s1 → Vals ys ws → sp (ys ++ []) G R E0 → wpAny (model X.prog X.w) X.A (call (.ref f) ws) (EP X pn τ R) X.xe s1 := fun {pn τ G s1 R ws ys} J rel h => by
    have rel2 : Vals (ys ++ []) (ws ++ []) := rel.append .nil
    have cnt : (ws ++ []).length = ps.length := rel2.length.symm.trans (F.ln _ _ _ _ h)
    have run := F.go X.A X.stack s1 G ⟨ws, []⟩ (ws ++ []) (ys ++ []) R E0 gd hr J.env0 (hb s1 ws J.kIn cnt) rel2 h
    refine wpAny_call (codeAny_mono run fun fin s2 out => ?_)
    rcases fin with err | fl
    · exact (pass0 (X := X)) pn τ G s1 err s2 J out
    · cases fl <;> first | exact out.elim | exact J.after out
  exact ⟨fun pn s0 τ G R J h => wpAny_Call_Name_kw (ld_glob J hg hm (PySem.W.callWith_K (h₀ := X.base) J.ok.mod.kin hk (thn (ha.run pos pn s0 τ G _ J h) fun ws s1 ⟨ys, G1, J1, rel, q⟩ => ⟨J1.kIn, callee J1 rel q⟩) he hpl) hdb)⟩
/-- such a def, called by its name -/
structure HasQ (P : Program) (w : World) (K : PySem.W.Frag) (mg : Str → Option Value) (base : Heap) (k : Nat) (x : Str) (ps : List Str) (sp : Sp) : Prop where
  h : ∃ f fd, mg x = some (.ref f) ∧ PySem.W.keepIn K (.ref f) = true ∧ Binds K fd ps [] ∧ FnG P w K mg base CX0 k f fd ps sp
end K5

/-! k04: for _law_refused_right: the list that is due; the askers. -/
namespace K5
open PySem PySem.Spec PyProof.Rows L2 LamX K1 K18 K4

theorem cons_l {tA : TE} {tB : TA} {σ : L2.St} {H : Hp} {Q : List V → Hp → Prop} (h : tA σ H fun v H1 => tB σ H1 fun vs H2 => Q (v :: vs) H2) : tCons tA tB σ H Q := h
theorem lst_l {tA : TA} {σ : L2.St} {H : Hp} {Q : VK} (h : tA σ H fun xs H1 => xs.length ≤ sizeLine ∧ ∀ p, H1 p = none → Q (.ref p) (upd H1 p (.lst xs))) : tLst tA σ H Q := h
/-- the list at D holds such pairs -/
def Du (H : Hp) (D : Addr) (os : List (Option (V × V))) : Prop := ∃ vs, H D = some (.lst vs) ∧ All2 (It H) vs os
theorem Du.extN {H H' : Hp} {D : Addr} {os : List (Option (V × V))} (x : ExtN H H') (h : Du H D os) : Du H' D os := let ⟨vs, e, al⟩ := h; ⟨vs, x _ _ e (fun _ z => nomatch z), It.all x al⟩
theorem Du.del {H : Hp} {D L : Addr} {os : List (Option (V × V))} {xs : List V} (hL : H L = some (.lst xs)) (n : D ≠ L) (h : Du H D os) : Du (delH H L) D os := let ⟨vs, e, al⟩ := h; ⟨vs, by rw [delH_ne n]; exact e, al.mono fun _ _ z => z.del hL⟩
/-- a value that is at hand -/
def Val (te : TE) (σ : L2.St) (x : V) : Prop := ∀ (H : Hp) (Q : VK), Q x H → te σ H Q
def TupsA (ta : TA) (σ : L2.St) (os : List (Option (V × V))) : Prop := ∀ (H : Hp) (Q : List V → Hp → Prop), (∀ vs H', Same H H' → All2 (It H') vs os → Q vs H') → ta σ H Q
section
variable {H : Hp} {σ : L2.St} {os os2 : List (Option (V × V))} {tx ty tl : TE} {ta : TA} {x y : V} {Q : VK}
theorem tups_nil : TupsA tNil σ [] := fun H Q k => k [] H (Same.refl H) All2.nil
theorem tups_cons (X : Val tx σ x) (Y : Val ty σ y) (R : TupsA ta σ os) : TupsA (tCons (tTup (tCons tx (tCons ty tNil))) ta) σ (some (x, y) :: os) := fun H Q k =>
  cons_l (tup_l (x := x) (y := y) (fun Q' z => X _ _ z) (fun Q' z => Y _ _ z) fun t H1 s1 it => R H1 _ fun vs H2 s2 al => k (.ref t :: vs) H2 (s1.trans s2) ⟨by simp [al.1], fun i u o eu eo => by
    cases i with
    | zero => cases eu; cases eo; exact it.same s2
    | succ i => exact al.2 i u o (by simpa using eu) (by simpa using eo)⟩)
theorem tups_lst (h : TupsA ta σ os) (l : os.length ≤ 100) (k : ∀ p H', Same H H' → H p = none → Du H' p os → Q (.ref p) H') : tLst ta σ H Q := by
  have sz : sizeLine = 16777216 := sizeLine_eq
  refine lst_l (h H _ fun vs H1 s1 al => ⟨by rw [al.1]; omega, fun p np => ?_⟩)
  have s2 := upd_new (o := .lst vs) np
  refine k p _ (s1.trans s2) ?_ ⟨vs, upd_same, al.mono fun _ _ z => z.same s2⟩
  cases e : H p with
  | none => rfl
  | some o => rw [s1 _ _ e] at np; cases np
theorem none_of {H1 : Hp} {p : Addr} (s : Same H H1) (np : H1 p = none) : H p = none := by
  cases e : H p with
  | none => rfl
  | some o => rw [s _ _ e] at np; cases np
theorem du_rep {j : Nat} (A : ∀ Q' : VK, (∀ p H', Same H H' → H p = none → Du H' p os → Q' (.ref p) H') → tl σ H Q') (j10 : j ≤ 10) (l : os.length ≤ 100) (k : ∀ p H', Same H H' → H p = none → Du H' p (List.replicate j os).flatten → Q (.ref p) H') : tOp rRep tl (tC (.int (j : Nat))) σ H Q := by
  have sz : sizeLine = 16777216 := sizeLine_eq
  refine A _ fun p H1 s1 np ⟨vs, e, al⟩ => ⟨p, (j : Nat), vs, rfl, rfl, e, by omega, by omega, ?_, fun q nq => ?_⟩
  · rw [Int.toNat_natCast, al.1]
    have : os.length * j ≤ 100 * 10 := Nat.mul_le_mul l j10
    omega
  · have s2 := upd_new (o := .lst (List.replicate ((j : Nat) : Int).toNat vs).flatten) nq
    refine k q _ (s1.trans s2) (none_of s1 nq) ⟨_, upd_same, ?_⟩
    rw [Int.toNat_natCast]
    exact all2_rep (al.mono fun _ _ z => z.same s2) j
theorem du_cat {i : Nat} {D : Addr} (hσ : σ[i]? = some (some (.ref D))) (hD : Du H D os) (l : os.length + os2.length ≤ 1000) (A : ∀ Q' : VK, (∀ p H', Same H H' → H p = none → Du H' p os2 → Q' (.ref p) H') → tl σ H Q')
    (k : ∀ p H', Same H H' → H p = none → Du H' p (os ++ os2) → Q (.ref p) H') : tOp rCat (tVar i) tl σ H Q := by
  have sz : sizeLine = 16777216 := sizeLine_eq
  obtain ⟨vs, e, al⟩ := hD
  refine ⟨_, hσ, A _ fun p H1 s1 np ⟨ws, e2, al2⟩ => ⟨D, p, vs, ws, rfl, rfl, s1 _ _ e, e2, by rw [al.1, al2.1]; omega, fun q nq => ?_⟩⟩
  have s2 := upd_new (o := .lst (vs ++ ws)) nq
  exact k q _ (s1.trans s2) (none_of s1 nq) ⟨_, upd_same, all2_app (al.mono fun _ _ z => (z.same s1).same s2) (al2.mono fun _ _ z => z.same s2)⟩
theorem val_var {i : Nat} (hσ : σ[i]? = some (some x)) : Val (tVar i) σ x := fun H Q q => ⟨_, hσ, q⟩
theorem val_c : Val (tC x) σ x := fun H Q q => q
end
/-! ### the askers -/
section
variable {K : PySem.W.Frag} {C CH CS CW CD CI CT CN : Addr} {i : Nat} {f f1 f2 f3 : Addr} {t : TA} {σ : L2.St} {H : Hp} {Q : VK} {E : XK}
theorem ask2 (hσ : σ[i]? = some (some (.ref f))) (hf : f = f1 ∨ f = f2 ∨ f = f3)
    (h : ∀ P : List V → Hp → Prop, (∀ u v H1, (∀ cont, SwDone K C CH CS CW CD CI CT u v H1 E cont) → P [u, v] H1) → t σ H P) :
    (tCallL i f1 (spSumsX K C CH CS CW CD CI CT) [] E t σ H Q ∨ tCallL i f2 (spRest K C CH CS CW CD CI CT) [] E t σ H Q) ∨ tCallL i f3 (spDoneSet K C CH CS CW CD CI CT) [] E t σ H Q := by
  rcases hf with rfl | rfl | rfl
  · exact .inl (.inl ⟨hσ, h _ fun u v H1 z => ⟨u, v, rfl, z _⟩⟩)
  · exact .inl (.inr ⟨hσ, h _ fun u v H1 z => ⟨u, v, rfl, z _⟩⟩)
  · exact .inr ⟨hσ, h _ fun u v H1 z => ⟨u, v, rfl, ds_in (R := fun t H' => Q (.ref t) H') (z fun _ _ _ _ => False) fun _ _ _ _ _ _ _ _ _ _ _ _ _ c => c.elim⟩⟩
theorem ask3 (hσ : σ[i]? = some (some (.ref f))) (hf : f = f1 ∨ f = f2 ∨ f = f3)
    (h : ∀ P : List V → Hp → Prop, (∀ u v x H1, (∀ kk : Addr → List Str → List Hnd → List Nat → Str → Prop, SwDone K C CH CS CW CD CI CT u v H1 E fun a ns hs ks => StrW K CN ns x H1 E (kk a ns hs ks)) → P [u, v, x] H1) → t σ H P) :
    (tCallL i f1 (spOf K C CH CS CW CD CI CT CN effs) [] E t σ H Q ∨ tCallL i f2 (spOf K C CH CS CW CD CI CT CN gaveF) [] E t σ H Q) ∨ tCallL i f3 (spOf K C CH CS CW CD CI CT CN tookF) [] E t σ H Q := by
  rcases hf with rfl | rfl | rfl
  · exact .inl (.inl ⟨hσ, h _ fun u v x H1 z => ⟨u, v, x, rfl, z fun a ns hs ks n => ∀ p H', Same H1 H' → Six C H' p (effs hs ks n) → Q (.ref p) H'⟩⟩)
  · exact .inl (.inr ⟨hσ, h _ fun u v x H1 z => ⟨u, v, x, rfl, z fun a ns hs ks n => ∀ p H', Same H1 H' → Six C H' p (gaveF hs ks n) → Q (.ref p) H'⟩⟩)
  · exact .inr ⟨hσ, h _ fun u v x H1 z => ⟨u, v, x, rfl, z fun a ns hs ks n => ∀ p H', Same H1 H' → Six C H' p (tookF hs ks n) → Q (.ref p) H'⟩⟩
/-- all numbers told are one that is none of a hand over -/
theorem hw_far {js : List Int} {l : Addr} {M m : Int} {part : V} {k : List Int → Addr → Prop} (sq : SqA H l (js.map V.int)) (lj : js.length ≤ 1000) (one : ∀ j ∈ js, j = m) (ne : js ≠ []) (bad : ¬ InM M m) (hE : ∀ d H', ToldF H H' d [("number", .int m)] → E (.ref CI) (some d) H') : HandsW K CD CI CT M (.ref l) part H E k := by
  obtain ⟨j0, r, rfl⟩ : ∃ a r, js = a :: r := by
    cases js with
    | nil => exact absurd rfl ne
    | cons a r => exact ⟨a, r, rfl⟩
  have z : ¬ ∀ x ∈ (j0 :: r), InM M x := fun al => bad ((one j0 (List.mem_cons_self ..)) ▸ al j0 (List.mem_cons_self ..))
  exact .inr ⟨l, _, rfl, sq, lj, fun i n ei _ _ d H' t => hE d H' ((one n (List.mem_of_getElem? ei)) ▸ t), fun al => absurd al z, fun al => absurd al z⟩
/-- one number told twice -/
theorem hw_dup {js : List Int} {l : Addr} {M m : Int} {part : V} {k : List Int → Addr → Prop} (sq : SqA H l (js.map V.int)) (lj : js.length ≤ 1000) (al : ∀ j ∈ js, InM M j) (dup : ∀ i n, DupAt js i n → n = m) (nd : ¬ js.Nodup) (hE : ∀ d H', ToldF H H' d [("value", .int m)] → E (.ref CT) (some d) H') : HandsW K CD CI CT M (.ref l) part H E k :=
  .inr ⟨l, _, rfl, sq, lj, fun i n ei bad _ => absurd (al n (List.mem_of_getElem? ei)) bad, fun _ i n dp d H' t => hE d H' ((dup i n dp) ▸ t), fun _ z => absurd z nd⟩
theorem dup00 : ∀ i n, DupAt [0, 0] i n → n = 0 := by
  rintro i n ⟨e, _, _⟩
  match i, e with
  | 0, e => cases e; rfl
  | 1, e => cases e; rfl
theorem dup4 {m : Int} : ∀ i n, DupAt [m, 0, m, 0] i n → n = m := by
  rintro i n ⟨e, mem, nd⟩
  match i, e with
  | 0, e => cases e; rfl
  | 1, e => cases e; simpa using mem
  | 2, e => cases e; rfl
  | 3, e => simp at nd
theorem dup3 {m : Int} : ∀ i n, DupAt [m, 0, m] i n → n = m := by
  rintro i n ⟨e, mem, nd⟩
  match i, e with
  | 0, e => cases e; rfl
  | 1, e => cases e; simpa using mem
  | 2, e => cases e; rfl
end
end K5

/-! k04: for _law_refused_right and _law_twelve_right: swaps of many like hand overs. -/
namespace K5
open PySem PySem.Spec PyProof.Rows L2 LamX K1 K18 K4

section
variable {C CH CS : Addr} {H H' : Hp} {a L : Addr} {xs : List V}
/-- what is no list stays -/
def NL (H H' : Hp) : Prop := ∀ b o, H b = some o → (∀ xs, o ≠ .lst xs) → H' b = some o
theorem nl_del (hL : H L = some (.lst xs)) : NL H (delH H L) := fun b o e n => by
  rw [delH_ne (fun z => n xs (by rw [z, hL] at e; exact (Option.some.inj e).symm))]
  exact e
theorem TupZ.nl {ys : List V} (x : NL H H') (h : TupZ H a ys) : TupZ H' a ys := let ⟨o, z1, z2⟩ := h; ⟨o, x _ _ z1 (fun _ z => nomatch z), z2⟩
theorem Six.nl {s : Int} (x : NL H H') (h : Six C H a s) : Six C H' a s := let ⟨dx, z⟩ := h; ⟨dx, x _ _ z (fun _ z => nomatch z)⟩
theorem HandAt.nl {h : Hnd} (x : NL H H') (k : HandAt C CH H a h) : HandAt C CH H' a h := let ⟨dx, pc, pd, z1, z2, z3⟩ := k; ⟨dx, pc, pd, x _ _ z1 (fun _ z => nomatch z), z2.nl x, z3.nl x⟩
theorem SwAt.nl {ns : List Str} {hs : List Hnd} (x : NL H H') (h : SwAt C CH CS H a ns hs) : SwAt C CH CS H' a ns hs :=
  let ⟨dx, ps, ph, pn, as, nas, h1, h2, h3, h4, h5, h6⟩ := h
  ⟨dx, ps, ph, pn, as, nas, x _ _ h1 (fun _ z => nomatch z), h2.nl x, x _ _ h3 (fun _ z => nomatch z), h4.mono fun _ _ z => z.nl x, x _ _ h5 (fun _ z => nomatch z), h6.mono fun _ _ z => z.nl x⟩
end
theorem fs_no (p h n : Addr) {m : Str} (h1 : ¬ m = "strangers") (h2 : ¬ m = "hands") (h3 : ¬ m = "nets") : (fsS p h n).lookup m = none := by
  unfold fsS fs2 fs1
  rw [lookup_putF, if_neg h3, lookup_putF, if_neg h2, lookup_putF, if_neg h1]
  rfl
/-- one statement, then the rest, by what holds between -/
theorem seq_mid {A B : TS} {D : Ends} {σ : L2.St} {H : Hp} (Pv : L2.St → Hp → Prop) (h : ∀ N : L2.St → Hp → Prop, (∀ σ' H', Pv σ' H' → N σ' H') → A { D with nx := N } σ H) (go : ∀ σ' H', Pv σ' H' → B D σ' H') : tSeq A B D σ H := h _ go
theorem last_any {te : TE} {k : Nat} {D : Ends} {σ : L2.St} {H : Hp} (R : V → Hp → Prop) (val : ∀ Q : VK, (∀ v H', R v H' → Q v H') → te σ H Q) (go : ∀ v H', R v H' → D.nx (σ.set k (some v)) H') : tAsg te (gName k) D σ H := val _ go
theorem all_rep {α : Type} {P : α → Prop} {xs : List α} (h : ∀ x ∈ xs, P x) (n : Nat) : ∀ x ∈ (List.replicate n xs).flatten, P x := fun x m => by
  obtain ⟨l, ml, mx⟩ := List.mem_flatten.mp m
  rw [List.eq_of_mem_replicate ml] at mx
  exact h x mx
theorem rep_len {α : Type} (xs : List α) (n : Nat) : ((List.replicate n xs).flatten).length = n * xs.length := by rw [List.length_flatten, List.map_replicate, List.sum_replicate_nat]
section
variable {C CH CS CM : Addr} {σ : L2.St} {H : Hp} {Q : VK} {ns : List Str} {nm : Addr} {i : Nat}
theorem rep_hands {a : Addr} {h : Hnd} (z : HandAt C CH H a h) (k : Nat) : Hands C CH H (List.replicate k a) (List.replicate k h) := ⟨by simp, fun i x y ex ey => by
  rw [List.getElem?_replicate] at ex ey
  split at ex
  · cases ex
    rw [if_pos (by assumption)] at ey
    cases ey
    exact z
  · cases ex⟩
/-- a hand over of 1 against 1 -/
def oneH (ns : List Str) : Hnd := ⟨ns.getD 0 "", ns.getD 1 "", 6, 6⟩
theorem oneH_ok (n2 : 2 ≤ ns.length) (nd : ns.Nodup) (nm : ∀ n ∈ ns, Nm n) : HnOk (oneH ns) :=
  ⟨nm _ (getD_in (by omega)), nm _ (getD_in (by omega)), fun e => absurd (getD_inj nd (by omega) (by omega) e) (by decide), (show (0 : Int) ≤ 6 by decide), (show (0 : Int) ≤ 6 by decide), (show (6 : Int).natAbs < 2 ^ 50 by decide), (show (6 : Int).natAbs < 2 ^ 50 by decide)⟩
theorem copies_ok (n2 : 2 ≤ ns.length) (n6 : ns.length ≤ 6) (nd : ns.Nodup) (nm : ∀ n ∈ ns, Nm n) (j : Nat) : SwOk ns (List.replicate j (oneH ns)) :=
  ⟨n2, n6, nd, nm, fun h m => by rw [List.eq_of_mem_replicate m]; exact ⟨oneH_ok n2 nd nm, getD_in (by omega), getD_in (by omega)⟩⟩
theorem mk_h {t : TA} {h : Hnd} {vc vd : V} (args : ∀ Q' : List V → Hp → Prop, Q' [.str h.g, .str h.t, vc, vd] H → t σ H Q') (ok : HnOk h) (sc : SixV C H vc h.c) (sd : SixV C H vd h.d) (k : ∀ q H', Same H H' → HandAt C CH H' q h → Q (.ref q) H') : tMake CH (spHInit C CH) [] E0 t σ H Q :=
  args _ (mk_hand ok sc sd fun q H' s _ ha => k q H' s ha)
theorem mk_oneH {t : TA} (n2 : 2 ≤ ns.length) (nd : ns.Nodup) (nmo : ∀ n ∈ ns, Nm n) (args : ∀ Q' : List V → Hp → Prop, Q' [.str (ns.getD 0 ""), .str (ns.getD 1 ""), .int 1, .int 1] H → t σ H Q') (k : ∀ q H', Same H H' → HandAt C CH H' q (oneH ns) → Q (.ref q) H') : tMake CH (spHInit C CH) [] E0 t σ H Q :=
  mk_h (h := oneH ns) (vc := .int 1) (vd := .int 1) args (oneH_ok n2 nd nmo) (.inr ⟨1, rfl, (show (6 : Int) = 6 * 1 by decide)⟩) (.inr ⟨1, rfl, (show (6 : Int) = 6 * 1 by decide)⟩) k
/-- Swap(names, [HandOver(names[0], names[1], 1, 1)] * j) -/
theorem mk_copies {tH : TE} {j : Nat} (hσ : σ[i]? = some (some (.ref nm))) (hnm : H nm = some (.lst (ns.map V.str))) (n2 : 2 ≤ ns.length) (n6 : ns.length ≤ 6) (nd : ns.Nodup) (nmo : ∀ n ∈ ns, Nm n) (j13 : j ≤ 13)
    (A : ∀ Q' : VK, (∀ q H', Same H H' → HandAt C CH H' q (oneH ns) → Q' (.ref q) H') → tH σ H Q') (k : ∀ b H', Same H H' → SwAt C CH CS H' b ns (List.replicate j (oneH ns)) → Q (.ref b) H') :
    tMake CS (spSInit C CH CS CM) [] E0 (tCons (tVar i) (tCons (tOp rRep (tLst (tCons tH tNil)) (tC (.int (j : Nat)))) tNil)) σ H Q := by
  have sz : sizeLine = 16777216 := sizeLine_eq
  refine ⟨_, hσ, A _ fun q H1 s1 hq => ⟨(by show 1 ≤ sizeLine; omega), fun l nl => ?_⟩⟩
  have s2 := upd_new (o := .lst [V.ref q]) nl
  have hl : upd H1 l (.lst [V.ref q]) l = some (.lst [V.ref q]) := upd_same
  generalize upd H1 l (.lst [V.ref q]) = H2 at s2 hl ⊢
  refine ⟨l, _, _, rfl, rfl, hl, by omega, by omega, (by show 1 * _ ≤ sizeLine; omega), fun l2 nl2 => ?_⟩
  have s3 := upd_new (o := .lst (List.replicate ((j : Nat) : Int).toNat [V.ref q]).flatten) nl2
  have e : upd H2 l2 (.lst (List.replicate ((j : Nat) : Int).toNat [V.ref q]).flatten) l2 = some (.lst ((List.replicate j q).map V.ref)) := by rw [upd_same, Int.toNat_natCast, List.flatten_replicate_singleton, List.map_replicate]
  generalize upd H2 l2 (.lst (List.replicate ((j : Nat) : Int).toNat [V.ref q]).flatten) = H3 at s3 e ⊢
  exact mk_swap0 ((s2.trans s3) _ _ (s1 _ _ hnm)) (.inl e) (rep_hands (hq.same (s2.trans s3)) j) (copies_ok n2 n6 nd nmo j) (by rw [List.length_replicate]; omega) fun b H4 s4 _ sw => k b H4 ((s1.trans (s2.trans s3)).trans s4) sw
end
end K5

/-! k04: _law_refused_right. -/
namespace K5
open PySem PySem.Spec PyProof.Rows L2 LamX K1 K18 K18R K4 NdefX

structure HasHeard (K : PySem.W.Frag) (mg : Str → Option Value) (LE CW CD CI CT CU CM : Addr) : Prop where
  h : ∃ (g : Addr) (fd : FuncData), mg "_law_heard" = some (.ref g) ∧ DefAt K "_law_heard" "_law_heard" sHeard g fd
  f : Hrd K mg LE CW CD CI CT CU CM
/-- a lambda heard, of what this def holds -/
theorem pe_hd {X : Cx} {T : List (Addr × Str)} {LE CW CD CI CT CU CM c P_ : Addr} {params : Arguments} {body : Expr} {scope : Scope} {t : XK → TE} {p lpos pos : Pos} (G : Glob X.mg) (HF : HasHeard X.K X.mg LE CW CD CI CT CU CM) (TB : TabB X.base X.mg c P_) (hr : Room 14 X.A) (hg : Gl X "_law_heard") (hcode : X.env.code = .ref c) (hmT : (P_, X.env.qual ++ "<lambda>") ∈ T) (hu : ∀ p ∈ T, p.1 = P_ → p.2 = X.env.qual ++ "<lambda>")
    (L : LamS X.env.scope scope) (hdef : defaultsOf params X.env = ([], [])) (hbind : ∀ (q : Str) (cl : List (Str × Addr)) (pm cv ctv : Value), bindArgs (PySem.W.kla_fn "<lambda>" q params body scope cl pm cv ctv) ⟨[], []⟩ = pure [])
    (hbody : ∀ (σ0 : L2.St) (A : Around) (outer : List Env) (s : Shared) (H : Hp) (E : XK) (f c' : Addr), Room 12 (A.deeper (lamEnv X scope s.heap.objs.size f c')) → CellF X σ0 s.heap H → PE (lamCx X A outer s H E scope f c') body (fun σ H' Q => σ = σ0 ∧ t E σ H' Q)) :
    PE X (.Call (.Name "_law_heard" p) [.Lambda params body scope lpos] [] pos) (tLam T (TTh CW CD CI CT CU CM) t) := by
  obtain ⟨g, fdg, mF, FF⟩ := HF.h
  have kF := FF.kp
  have bF : Binds X.K fdg ["_law_ask"] [] := FF.bindsN fun _ _ _ _ _ _ us hl => match us, hl with | [_], _ => rfl
  obtain ⟨ocR, odR, dVR, kVR, docR, pmR, anR, cdvR, ctR, oslR, rfl, lkF, hcF, _, _⟩ := FF.ex
  exact pe_lam1 (k := 12) (Ng := nHeard) hg mF kF lkF hcF bF scHeard rfl (.inl rfl) (heard_gives G HF.f) TB hcode hmT hu hr L hdef hbind hbody
abbrev nRef4 : List Str := ["_law_pen_here", "_law_swap", "_law_names_here", "_law_many", "_law_heard_here", "_law_due", "_law_ask", "_law_asked", "_law_bad", "_law_big", "_law_far", "_law_odd", "_law_strange"]
abbrev qRef4 : Str := (("_law_refused_right" : Str) ++ (".<locals>." : Str)) ++ ("<lambda>" : Str)
theorem scRef4 : FnScope nRef4 ["_law_pen_here", "_law_swap", "_law_names_here", "_law_many"] (defScope sRefused) := ⟨rfl, rfl, rfl, by decide +kernel, rfl, by decide +kernel, by decide +kernel⟩
/-- errors that end no generator -/
def EN (K : PySem.W.Frag) (E : XK) : XK := fun cls d H => E cls d H ∧ PySem.W.subIn K cls (.type "StopIteration") = some false
structure NStp (K : PySem.W.Frag) (CW CD CI CT CM : Addr) : Prop where
  w : PySem.W.subIn K (.ref CW) (.type "StopIteration") = some false
  d : PySem.W.subIn K (.ref CD) (.type "StopIteration") = some false
  i : PySem.W.subIn K (.ref CI) (.type "StopIteration") = some false
  t : PySem.W.subIn K (.ref CT) (.type "StopIteration") = some false
  m : PySem.W.subIn K (.ref CM) (.type "StopIteration") = some false
/-- o.net(name) -/
structure NetM (P : Program) (w : World) (K : PySem.W.Frag) (mg : Str → Option Value) (base : Heap) (C CH CS CN : Addr) : Prop where
  h : ∃ f fd, Meth K CS "net" f ∧ Binds K fd ["self", "name"] [] ∧ FnOk P w K mg base (L2.CX P w) 4 f fd ["self", "name"] (spNet K C CH CS CN)
/-- all but what stands at p and the tables stay -/
def KeepN (p : Addr) (H H' : Hp) : Prop := ∀ b o, b ≠ p → H b = some o → (∀ ps, o ≠ .tbl ps) → H' b = some o
/-- what is heard of each of the first three -/
def pat1 (m : Int) : List (Option (V × V)) := [some (.str "swap", .str "swap"), some (.str "done", .str "done"), some (.str "hand", .int m)]
def pat2 (m : Int) (k : Nat) (v : V) : List (Option (V × V)) := [some (.str "swap", .str "swap"), some (.str "hand", .int m), some (.str "stranger", v), some (.str "done", .str "done"), some (.str (if 0 < k then "twice" else "hand"), .int 0)]
def pat3 (m : Int) (v : V) : List (Option (V × V)) := [some (.str "done", .str "numbers"), some (.str "stranger", v), some (.str "hand", .int m), some (.str "swap", .str "swap"), some (.str "swap", .str "swap")]
theorem Hd.ne_new {T : List (Addr × Str)} {HA H : Hp} {L t : Addr} {os : List (Option (V × V))} (h : Hd T HA L os H) (n : H t = none) : L ≠ t := let ⟨vs, e, _⟩ := h.l; ne_of_none e n
def spRef4 (T : List (Addr × Str)) (C CH CS : Addr) : Sp := fun vs H Q _ => ∃ (p c a nm : Addr) (ns : List Str) (hs : List Hnd) (n : Nat), vs = [.ref p, .ref a, .ref nm, .int (hs.length : Nat)] ∧ Tabs T H ∧ Pen H p c n ∧ n + 60 < 100000 ∧ nm ≠ p ∧ SwAt C CH CS H a ns hs ∧ H nm = some (.lst (ns.map V.str)) ∧
  2 ≤ ns.length ∧ ns.length ≤ 6 ∧ ns.Nodup ∧ (∀ n ∈ ns, Drwn n) ∧ (∀ h ∈ hs, HnOk h) ∧ hs.length ≤ 40 ∧ ∀ H', KeepN p H H' → Pen H' p c (n + 4) → Q (.bl true) H'
section
variable {P : Program} {w : World} {K : PySem.W.Frag} {mg : Str → Option Value} {base : Heap} {f C CH CS CW CD CI CT CM CN LE cc PT_ : Addr} {fd : FuncData}
theorem ok_ref4 {T : List (Addr × Str)} (G : Glob mg) (O : OddF K CS) (R : SwapF K CS) (M : MkS P w K mg base C CH CS CM) (MH : MkH P w K mg base C CH) (H1 : HasSumsX P w K mg base C CH CS CW CD CI CT) (H2 : HasRest P w K mg base C CH CS CW CD CI CT) (H3 : HasDoneSet P w K mg base C CH CS CW CD CI CT)
    (J1 : HasOf "sum_of" P w K mg base C CH CS CW CD CI CT CN effs) (J2 : HasOf "gave" P w K mg base C CH CS CW CD CI CT CN gaveF) (J3 : HasOf "took" P w K mg base C CH CS CW CD CI CT CN tookF) (HA : HasG P w K mg base 8 "along" ["swap", "numbers"] (spAlong K C CH CS CW CD CI CT))
    (HD : HasG P w K mg base 4 "done_sets" ["swap"] (spDoneSets K C CH CS CW CM)) (NM : NetM P w K mg base C CH CS CN) (NS : NStp K CW CD CI CT CM) (HP : HasPick P w K mg base) (HF : HasHeard K mg LE CW CD CI CT CN CM)
    (TB : TabB base mg cc PT_) (memT : (PT_, qRef4) ∈ T) (uniT : ∀ p ∈ T, p.1 = PT_ → p.2 = qRef4) (F : DefC K "_law_refused_right" "_law_refused_right" sRefused f fd cc) : FnG P w K mg base CX0 15 f fd ["_law_pen_here", "_law_swap", "_law_names_here", "_law_many"] (spRef4 T C CH CS) := by
  obtain ⟨fm, fdm, Mm, GM, bM⟩ := M.m
  obtain ⟨fh, fdh, Hm, GH, bH⟩ := MH.m
  obtain ⟨fS1, fdS1, mS1, kS1, bS1, GS1⟩ := H1.h
  obtain ⟨fS2, fdS2, mS2, kS2, bS2, GS2⟩ := H2.h
  obtain ⟨fS3, fdS3, mS3, kS3, bS3, GS3⟩ := H3.h
  obtain ⟨fO1, fdO1, mO1, kO1, bO1, GO1⟩ := J1.h
  obtain ⟨fO2, fdO2, mO2, kO2, bO2, GO2⟩ := J2.h
  obtain ⟨fO3, fdO3, mO3, kO3, bO3, GO3⟩ := J3.h
  obtain ⟨fA, fdA, mA, kA, bA, GA⟩ := HA.h
  obtain ⟨fD, fdD, mD, kD, bD, GD⟩ := HD.h
  obtain ⟨fn, fdn, Mn, bN, GN⟩ := NM.h
  obtain ⟨fp, fdp, mP, kP, bP, GP⟩ := HP.h
  refine okGC F scRef4 (fun vs H Q E ⟨p, c, a, nm, ns, hs, n, e, _⟩ => by rw [e]; rfl) (fun A outer s H vs Q E gd hr ⟨p, c, a, nm', ns, hs, n, e, tb, pn, hn, np, ha, hnm, n2, n6, nd, dr, okh, l40, q_⟩ => ?_)
  subst e
  have gd2 : (A.deeper (envOfC "_law_refused_right" (defScope sRefused) s.heap.objs.size f (.ref cc))).guards = some [] := gd
  have r9 := hr.mono (show 9 ≤ 14 by decide)
  have r8 := hr.mono (show 8 ≤ 14 by decide)
  have r2 := hr.mono (show 2 ≤ 14 by decide)
  refine ⟨_, pss_cons (ps_set (i := 11) scRef4.nd rfl (Or.inr rfl) (pe_call GP r2 rfl mP kP bP .nil pass0 (pa_cons (pv 0) (pa_cons (pe_lst (pa_cons pe_non (pa_cons (pv 2) (pa_cons pe_str (pa_cons pe_int (pa_cons (pe_fld (pv 1) rfl) pa_nil)))))) pa_nil))))
    (pss_cons (ps_set (i := 8) scRef4.nd rfl (Or.inr rfl) (pe_call GP r2 rfl mP kP bP .nil pass0 (pa_cons (pv 0) (pa_cons (pe_lst (pa_cons pe_non (pa_cons pe_str (pa_cons pe_int (pa_cons pe_dnewK (pa_cons (pe_lst (pa_cons pe_bl pa_nil)) (pa_cons (pe_lst (pa_cons pe_int (pa_cons pe_non pa_nil))) (pa_cons (pe_tup (pa_cons pe_str pa_nil)) (pa_cons (pe_lst (pa_cons (pe_lst (pa_cons pe_int pa_nil)) pa_nil)) pa_nil))))))))) pa_nil))))
    (pss_cons (ps_set (i := 12) scRef4.nd rfl (Or.inr rfl) (pe_call GP r2 rfl mP kP bP .nil pass0 (pa_cons (pv 0) (pa_cons (pe_lst (pa_cons pe_str (pa_cons pe_non (pa_cons pe_int (pa_cons (pe_op op_add_str (pe_ix ix_list (pv 2) pe_int (fun _ _ => rfl)) pe_str) (pa_cons (pe_upper (pe_ix ix_list (pv 2) pe_int (fun _ _ => rfl))) (pa_cons (pe_lst (pa_cons (pe_ix ix_list (pv 2) pe_int (fun _ _ => rfl)) pa_nil)) (pa_cons pe_bl pa_nil)))))))) pa_nil))))
    (pss_cons (ps_set (i := 10) scRef4.nd rfl (Or.inr rfl) (pe_call GP r2 rfl mP kP bP .nil pass0 (pa_cons (pv 0) (pa_cons (pe_lst (pa_cons (pv 3) (pa_cons (pe_un un_neg pe_int) (pa_cons (pe_op op_add (pv 3) pe_int) (pa_cons (pe_op op_pow pe_int pe_int) pa_nil))))) pa_nil))))
    (pss_cons (ps_set (i := 4) scRef4.nd rfl (Or.inl rfl) (pe_lst pa_nil))
    (pss_cons (ps_for PassesOwn.never rfl (pi_tup (pe_tup (pa_cons (pe_glob (v := .ref fS1) rfl mS1 rfl) (pa_cons (pe_glob (v := .ref fS2) rfl mS2 rfl) (pa_cons (pe_glob (v := .ref fS3) rfl mS3 rfl) pa_nil))))) (pg_name (i := 6) scRef4.nd rfl (Or.inr rfl))
      (pss_cons (ps_expr (pe_bm PySem.F.plainAttrs_list PySem.F.slot_list_extend PySem.F.type_list_extend mt_extend (pv 4) (pa_cons (pe_lst (pa_cons (pe_hd (X := (cxOf CX0 P w K mg base nRef4 "_law_refused_right" (defScope sRefused) f (.ref cc) A outer s H E).nox) (T := T) G HF TB hr rfl rfl memT uniT (lamS_by (sc := defScope sRefused) (by decide +kernel)) rfl (fun _ _ _ _ _ => rfl)
        (fun σ0 A2 o2 s2 H2 E2 f2 c2 hr2 cf => pe_at (pe_alt (pe_alt (pe_callL (i := 6) (E := E2) GS1 (hr2.mono (by decide)) rfl (by first | exact Or.inl rfl | exact Or.inr (Or.inl rfl) | exact Or.inr (Or.inr rfl)) kS1 bS1 .nil (passes_call (takes_of rfl rfl rfl rfl) fun _ _ _ _ z => z) (pa_cons (pv 11) (pa_cons (pv 8) pa_nil))) (pe_callL (i := 6) (E := E2) GS2 (hr2.mono (by decide)) rfl (by first | exact Or.inl rfl | exact Or.inr (Or.inl rfl) | exact Or.inr (Or.inr rfl)) kS2 bS2 .nil (passes_call (takes_of rfl rfl rfl rfl) fun _ _ _ _ z => z) (pa_cons (pv 11) (pa_cons (pv 8) pa_nil)))) (pe_callL (i := 6) (E := E2) GS3 (hr2.mono (by decide)) rfl (by first | exact Or.inl rfl | exact Or.inr (Or.inl rfl) | exact Or.inr (Or.inr rfl)) kS3 bS3 .nil (passes_call (takes_of rfl rfl rfl rfl) fun _ _ _ _ z => z) (pa_cons (pv 11) (pa_cons (pv 8) pa_nil)))) fun _ _ h => h)) (pa_cons (pe_hd (X := (cxOf CX0 P w K mg base nRef4 "_law_refused_right" (defScope sRefused) f (.ref cc) A outer s H E).nox) (T := T) G HF TB hr rfl rfl memT uniT (lamS_by (sc := defScope sRefused) (by decide +kernel)) rfl (fun _ _ _ _ _ => rfl)
        (fun σ0 A2 o2 s2 H2 E2 f2 c2 hr2 cf => pe_at (pe_alt (pe_alt (pe_callL (i := 6) (E := E2) GS1 (hr2.mono (by decide)) rfl (by first | exact Or.inl rfl | exact Or.inr (Or.inl rfl) | exact Or.inr (Or.inr rfl)) kS1 bS1 .nil (passes_call (takes_of rfl rfl rfl rfl) fun _ _ _ _ z => z) (pa_cons (pv 1) (pa_cons (pv 8) pa_nil))) (pe_callL (i := 6) (E := E2) GS2 (hr2.mono (by decide)) rfl (by first | exact Or.inl rfl | exact Or.inr (Or.inl rfl) | exact Or.inr (Or.inr rfl)) kS2 bS2 .nil (passes_call (takes_of rfl rfl rfl rfl) fun _ _ _ _ z => z) (pa_cons (pv 1) (pa_cons (pv 8) pa_nil)))) (pe_callL (i := 6) (E := E2) GS3 (hr2.mono (by decide)) rfl (by first | exact Or.inl rfl | exact Or.inr (Or.inl rfl) | exact Or.inr (Or.inr rfl)) kS3 bS3 .nil (passes_call (takes_of rfl rfl rfl rfl) fun _ _ _ _ z => z) (pa_cons (pv 1) (pa_cons (pv 8) pa_nil)))) fun _ _ h => h)) pa_nil))) pa_nil)))
      (pss_one (ps_expr (pe_bm PySem.F.plainAttrs_list PySem.F.slot_list_append PySem.F.type_list_append mt_append (pv 4) (pa_cons (pe_hd (X := (cxOf CX0 P w K mg base nRef4 "_law_refused_right" (defScope sRefused) f (.ref cc) A outer s H E).nox) (T := T) G HF TB hr rfl rfl memT uniT (lamS_by (sc := defScope sRefused) (by decide +kernel)) rfl (fun _ _ _ _ _ => rfl)
        (fun σ0 A2 o2 s2 H2 E2 f2 c2 hr2 cf => pe_at (pe_alt (pe_alt (pe_callL (i := 6) (E := E2) GS1 (hr2.mono (by decide)) rfl (by first | exact Or.inl rfl | exact Or.inr (Or.inl rfl) | exact Or.inr (Or.inr rfl)) kS1 bS1 .nil (passes_call (takes_of rfl rfl rfl rfl) fun _ _ _ _ z => z) (pa_cons (pv 1) (pa_cons (pe_lst (pa_cons (pv 10) (pa_cons (pv 10) pa_nil))) pa_nil))) (pe_callL (i := 6) (E := E2) GS2 (hr2.mono (by decide)) rfl (by first | exact Or.inl rfl | exact Or.inr (Or.inl rfl) | exact Or.inr (Or.inr rfl)) kS2 bS2 .nil (passes_call (takes_of rfl rfl rfl rfl) fun _ _ _ _ z => z) (pa_cons (pv 1) (pa_cons (pe_lst (pa_cons (pv 10) (pa_cons (pv 10) pa_nil))) pa_nil)))) (pe_callL (i := 6) (E := E2) GS3 (hr2.mono (by decide)) rfl (by first | exact Or.inl rfl | exact Or.inr (Or.inl rfl) | exact Or.inr (Or.inr rfl)) kS3 bS3 .nil (passes_call (takes_of rfl rfl rfl rfl) fun _ _ _ _ z => z) (pa_cons (pv 1) (pa_cons (pe_lst (pa_cons (pv 10) (pa_cons (pv 10) pa_nil))) pa_nil)))) fun _ _ h => h)) pa_nil))))))
    (pss_cons (ps_set (i := 5) scRef4.nd rfl (Or.inl rfl) (pe_op op_rep (pe_lst (pa_cons (pe_tup (pa_cons pe_str (pa_cons pe_str pa_nil))) (pa_cons (pe_tup (pa_cons pe_str (pa_cons pe_str pa_nil))) (pa_cons (pe_tup (pa_cons pe_str (pa_cons (pv 10) pa_nil))) pa_nil)))) pe_int))
    (pss_cons (ps_for PassesOwn.never rfl (pi_tup (pe_tup (pa_cons (pe_glob (v := .ref fO1) rfl mO1 rfl) (pa_cons (pe_glob (v := .ref fO2) rfl mO2 rfl) (pa_cons (pe_glob (v := .ref fO3) rfl mO3 rfl) pa_nil))))) (pg_name (i := 7) scRef4.nd rfl (Or.inr rfl))
      (pss_cons (ps_expr (pe_bm PySem.F.plainAttrs_list PySem.F.slot_list_extend PySem.F.type_list_extend mt_extend (pv 4) (pa_cons (pe_lst (pa_cons (pe_hd (X := (cxOf CX0 P w K mg base nRef4 "_law_refused_right" (defScope sRefused) f (.ref cc) A outer s H E).nox) (T := T) G HF TB hr rfl rfl memT uniT (lamS_by (sc := defScope sRefused) (by decide +kernel)) rfl (fun _ _ _ _ _ => rfl)
        (fun σ0 A2 o2 s2 H2 E2 f2 c2 hr2 cf => pe_at (pe_alt (pe_alt (pe_callL (i := 7) (E := E2) GO1 (hr2.mono (by decide)) rfl (by first | exact Or.inl rfl | exact Or.inr (Or.inl rfl) | exact Or.inr (Or.inr rfl)) kO1 bO1 .nil (passes_call (takes_of rfl rfl rfl rfl) fun _ _ _ _ z => z) (pa_cons (pv 11) (pa_cons (pv 8) (pa_cons (pv 12) pa_nil)))) (pe_callL (i := 7) (E := E2) GO2 (hr2.mono (by decide)) rfl (by first | exact Or.inl rfl | exact Or.inr (Or.inl rfl) | exact Or.inr (Or.inr rfl)) kO2 bO2 .nil (passes_call (takes_of rfl rfl rfl rfl) fun _ _ _ _ z => z) (pa_cons (pv 11) (pa_cons (pv 8) (pa_cons (pv 12) pa_nil))))) (pe_callL (i := 7) (E := E2) GO3 (hr2.mono (by decide)) rfl (by first | exact Or.inl rfl | exact Or.inr (Or.inl rfl) | exact Or.inr (Or.inr rfl)) kO3 bO3 .nil (passes_call (takes_of rfl rfl rfl rfl) fun _ _ _ _ z => z) (pa_cons (pv 11) (pa_cons (pv 8) (pa_cons (pv 12) pa_nil))))) fun _ _ h => h)) (pa_cons (pe_hd (X := (cxOf CX0 P w K mg base nRef4 "_law_refused_right" (defScope sRefused) f (.ref cc) A outer s H E).nox) (T := T) G HF TB hr rfl rfl memT uniT (lamS_by (sc := defScope sRefused) (by decide +kernel)) rfl (fun _ _ _ _ _ => rfl)
        (fun σ0 A2 o2 s2 H2 E2 f2 c2 hr2 cf => pe_at (pe_alt (pe_alt (pe_callL (i := 7) (E := E2) GO1 (hr2.mono (by decide)) rfl (by first | exact Or.inl rfl | exact Or.inr (Or.inl rfl) | exact Or.inr (Or.inr rfl)) kO1 bO1 .nil (passes_call (takes_of rfl rfl rfl rfl) fun _ _ _ _ z => z) (pa_cons (pv 1) (pa_cons (pe_lst (pa_cons (pv 10) pa_nil)) (pa_cons (pv 12) pa_nil)))) (pe_callL (i := 7) (E := E2) GO2 (hr2.mono (by decide)) rfl (by first | exact Or.inl rfl | exact Or.inr (Or.inl rfl) | exact Or.inr (Or.inr rfl)) kO2 bO2 .nil (passes_call (takes_of rfl rfl rfl rfl) fun _ _ _ _ z => z) (pa_cons (pv 1) (pa_cons (pe_lst (pa_cons (pv 10) pa_nil)) (pa_cons (pv 12) pa_nil))))) (pe_callL (i := 7) (E := E2) GO3 (hr2.mono (by decide)) rfl (by first | exact Or.inl rfl | exact Or.inr (Or.inl rfl) | exact Or.inr (Or.inr rfl)) kO3 bO3 .nil (passes_call (takes_of rfl rfl rfl rfl) fun _ _ _ _ z => z) (pa_cons (pv 1) (pa_cons (pe_lst (pa_cons (pv 10) pa_nil)) (pa_cons (pv 12) pa_nil))))) fun _ _ h => h)) pa_nil))) pa_nil)))
      (pss_cons (ps_expr (pe_bm PySem.F.plainAttrs_list PySem.F.slot_list_extend PySem.F.type_list_extend mt_extend (pv 4) (pa_cons (pe_lst (pa_cons (pe_hd (X := (cxOf CX0 P w K mg base nRef4 "_law_refused_right" (defScope sRefused) f (.ref cc) A outer s H E).nox) (T := T) G HF TB hr rfl rfl memT uniT (lamS_by (sc := defScope sRefused) (by decide +kernel)) rfl (fun _ _ _ _ _ => rfl)
        (fun σ0 A2 o2 s2 H2 E2 f2 c2 hr2 cf => pe_at (pe_alt (pe_alt (pe_callL (i := 7) (E := E2) GO1 (hr2.mono (by decide)) rfl (by first | exact Or.inl rfl | exact Or.inr (Or.inl rfl) | exact Or.inr (Or.inr rfl)) kO1 bO1 .nil (passes_call (takes_of rfl rfl rfl rfl) fun _ _ _ _ z => z) (pa_cons (pv 1) (pa_cons (pe_tup pa_nil) (pa_cons (pv 12) pa_nil)))) (pe_callL (i := 7) (E := E2) GO2 (hr2.mono (by decide)) rfl (by first | exact Or.inl rfl | exact Or.inr (Or.inl rfl) | exact Or.inr (Or.inr rfl)) kO2 bO2 .nil (passes_call (takes_of rfl rfl rfl rfl) fun _ _ _ _ z => z) (pa_cons (pv 1) (pa_cons (pe_tup pa_nil) (pa_cons (pv 12) pa_nil))))) (pe_callL (i := 7) (E := E2) GO3 (hr2.mono (by decide)) rfl (by first | exact Or.inl rfl | exact Or.inr (Or.inl rfl) | exact Or.inr (Or.inr rfl)) kO3 bO3 .nil (passes_call (takes_of rfl rfl rfl rfl) fun _ _ _ _ z => z) (pa_cons (pv 1) (pa_cons (pe_tup pa_nil) (pa_cons (pv 12) pa_nil))))) fun _ _ h => h)) (pa_cons (pe_hd (X := (cxOf CX0 P w K mg base nRef4 "_law_refused_right" (defScope sRefused) f (.ref cc) A outer s H E).nox) (T := T) G HF TB hr rfl rfl memT uniT (lamS_by (sc := defScope sRefused) (by decide +kernel)) rfl (fun _ _ _ _ _ => rfl)
        (fun σ0 A2 o2 s2 H2 E2 f2 c2 hr2 cf => pe_at (pe_alt (pe_alt (pe_callL (i := 7) (E := E2) GO1 (hr2.mono (by decide)) rfl (by first | exact Or.inl rfl | exact Or.inr (Or.inl rfl) | exact Or.inr (Or.inr rfl)) kO1 bO1 .nil (passes_call (takes_of rfl rfl rfl rfl) fun _ _ _ _ z => z) (pa_cons (pv 1) (pa_cons (pv 8) (pa_cons (pv 12) pa_nil)))) (pe_callL (i := 7) (E := E2) GO2 (hr2.mono (by decide)) rfl (by first | exact Or.inl rfl | exact Or.inr (Or.inl rfl) | exact Or.inr (Or.inr rfl)) kO2 bO2 .nil (passes_call (takes_of rfl rfl rfl rfl) fun _ _ _ _ z => z) (pa_cons (pv 1) (pa_cons (pv 8) (pa_cons (pv 12) pa_nil))))) (pe_callL (i := 7) (E := E2) GO3 (hr2.mono (by decide)) rfl (by first | exact Or.inl rfl | exact Or.inr (Or.inl rfl) | exact Or.inr (Or.inr rfl)) kO3 bO3 .nil (passes_call (takes_of rfl rfl rfl rfl) fun _ _ _ _ z => z) (pa_cons (pv 1) (pa_cons (pv 8) (pa_cons (pv 12) pa_nil))))) fun _ _ h => h)) pa_nil))) pa_nil)))
      (pss_one (ps_expr (pe_bm PySem.F.plainAttrs_list PySem.F.slot_list_append PySem.F.type_list_append mt_append (pv 4) (pa_cons (pe_hd (X := (cxOf CX0 P w K mg base nRef4 "_law_refused_right" (defScope sRefused) f (.ref cc) A outer s H E).nox) (T := T) G HF TB hr rfl rfl memT uniT (lamS_by (sc := defScope sRefused) (by decide +kernel)) rfl (fun _ _ _ _ _ => rfl)
        (fun σ0 A2 o2 s2 H2 E2 f2 c2 hr2 cf => pe_at (pe_alt (pe_alt (pe_callL (i := 7) (E := E2) GO1 (hr2.mono (by decide)) rfl (by first | exact Or.inl rfl | exact Or.inr (Or.inl rfl) | exact Or.inr (Or.inr rfl)) kO1 bO1 .nil (passes_call (takes_of rfl rfl rfl rfl) fun _ _ _ _ z => z) (pa_cons (pv 1) (pa_cons (pe_lst (pa_cons pe_int (pa_cons pe_int pa_nil))) (pa_cons (pv 12) pa_nil)))) (pe_callL (i := 7) (E := E2) GO2 (hr2.mono (by decide)) rfl (by first | exact Or.inl rfl | exact Or.inr (Or.inl rfl) | exact Or.inr (Or.inr rfl)) kO2 bO2 .nil (passes_call (takes_of rfl rfl rfl rfl) fun _ _ _ _ z => z) (pa_cons (pv 1) (pa_cons (pe_lst (pa_cons pe_int (pa_cons pe_int pa_nil))) (pa_cons (pv 12) pa_nil))))) (pe_callL (i := 7) (E := E2) GO3 (hr2.mono (by decide)) rfl (by first | exact Or.inl rfl | exact Or.inr (Or.inl rfl) | exact Or.inr (Or.inr rfl)) kO3 bO3 .nil (passes_call (takes_of rfl rfl rfl rfl) fun _ _ _ _ z => z) (pa_cons (pv 1) (pa_cons (pe_lst (pa_cons pe_int (pa_cons pe_int pa_nil))) (pa_cons (pv 12) pa_nil))))) fun _ _ h => h)) pa_nil)))))))
    (pss_cons (ps_set (i := 5) scRef4.nd rfl (Or.inl rfl) (pe_op op_cat (pv 5) (pe_op op_rep (pe_lst (pa_cons (pe_tup (pa_cons pe_str (pa_cons pe_str pa_nil))) (pa_cons (pe_tup (pa_cons pe_str (pa_cons (pv 10) pa_nil))) (pa_cons (pe_tup (pa_cons pe_str (pa_cons (pv 12) pa_nil))) (pa_cons (pe_tup (pa_cons pe_str (pa_cons pe_str pa_nil))) (pa_cons (pe_tup (pa_cons (pe_ifExp (pt_cmpR op_gt (pv 3) pe_int (nomark _)) pe_str pe_str) (pa_cons pe_int pa_nil))) pa_nil)))))) pe_int)))
    (pss_cons (ps_expr (pe_bm PySem.F.plainAttrs_list PySem.F.slot_list_extend PySem.F.type_list_extend mt_extend (pv 4) (pa_cons (pe_lst (pa_cons (pe_hd (X := (cxOf CX0 P w K mg base nRef4 "_law_refused_right" (defScope sRefused) f (.ref cc) A outer s H E).nox) (T := T) G HF TB hr rfl rfl memT uniT (lamS_by (sc := defScope sRefused) (by decide +kernel)) rfl (fun _ _ _ _ _ => rfl)
        (fun σ0 A2 o2 s2 H2 E2 f2 c2 hr2 cf => pe_at (pe_listG (k := 8) (E := EN K E2) (pgen_call (E := EN K E2) GA (hr2.mono (by decide)) rfl mA kA bA .nil (pa_cons (pv 1) (pa_cons (pv 8) pa_nil))) (passes_call (takes_of rfl rfl rfl rfl) fun _ _ _ _ z => z.1) (fun _ _ _ z => z.2) (hr2.mono (by decide)) (by rfl) G.lst (by decide +kernel)) fun _ _ h => h)) (pa_cons (pe_hd (X := (cxOf CX0 P w K mg base nRef4 "_law_refused_right" (defScope sRefused) f (.ref cc) A outer s H E).nox) (T := T) G HF TB hr rfl rfl memT uniT (lamS_by (sc := defScope sRefused) (by decide +kernel)) rfl (fun _ _ _ _ _ => rfl)
        (fun σ0 A2 o2 s2 H2 E2 f2 c2 hr2 cf => pe_at (pe_meth (E := E2) (pv 1) R.cl Mn GN (hr2.mono (by decide)) bN .nil (passes_call (takes_of rfl rfl rfl rfl) fun _ _ _ _ z => z) (pa_cons (pv 12) pa_nil)) fun _ _ h => h)) pa_nil))) pa_nil)))
    (pss_cons (ps_expr (pe_bm PySem.F.plainAttrs_list PySem.F.slot_list_extend PySem.F.type_list_extend mt_extend (pv 4) (pa_cons (pe_lst (pa_cons (pe_hd (X := (cxOf CX0 P w K mg base nRef4 "_law_refused_right" (defScope sRefused) f (.ref cc) A outer s H E).nox) (T := T) G HF TB hr rfl rfl memT uniT (lamS_by (sc := defScope sRefused) (by decide +kernel)) rfl (fun _ _ _ _ _ => rfl)
        (fun σ0 A2 o2 s2 H2 E2 f2 c2 hr2 cf => pe_at (pe_listG (k := 8) (E := EN K E2) (pgen_call (E := EN K E2) GA (hr2.mono (by decide)) rfl mA kA bA .nil (pa_cons (pv 1) (pa_cons (pe_lst (pa_cons (pv 10) (pa_cons (pv 10) pa_nil))) pa_nil))) (passes_call (takes_of rfl rfl rfl rfl) fun _ _ _ _ z => z.1) (fun _ _ _ z => z.2) (hr2.mono (by decide)) (by rfl) G.lst (by decide +kernel)) fun _ _ h => h)) (pa_cons (pe_hd (X := (cxOf CX0 P w K mg base nRef4 "_law_refused_right" (defScope sRefused) f (.ref cc) A outer s H E).nox) (T := T) G HF TB hr rfl rfl memT uniT (lamS_by (sc := defScope sRefused) (by decide +kernel)) rfl (fun _ _ _ _ _ => rfl)
        (fun σ0 A2 o2 s2 H2 E2 f2 c2 hr2 cf => pe_at (pe_listG (k := 8) (E := EN K E2) (pgen_call (E := EN K E2) GA (hr2.mono (by decide)) rfl mA kA bA .nil (pa_cons (pv 11) (pa_cons (pv 8) pa_nil))) (passes_call (takes_of rfl rfl rfl rfl) fun _ _ _ _ z => z.1) (fun _ _ _ z => z.2) (hr2.mono (by decide)) (by rfl) G.lst (by decide +kernel)) fun _ _ h => h)) pa_nil))) pa_nil)))
    (pss_cons (ps_expr (pe_bm PySem.F.plainAttrs_list PySem.F.slot_list_append PySem.F.type_list_append mt_append (pv 4) (pa_cons (pe_hd (X := (cxOf CX0 P w K mg base nRef4 "_law_refused_right" (defScope sRefused) f (.ref cc) A outer s H E).nox) (T := T) G HF TB hr rfl rfl memT uniT (lamS_by (sc := defScope sRefused) (by decide +kernel)) rfl (fun _ _ _ _ _ => rfl)
        (fun σ0 A2 o2 s2 H2 E2 f2 c2 hr2 cf => pe_at (pe_listG (k := 4) (E := EN K E2) (pgen_call (E := EN K E2) GD (hr2.mono (by decide)) rfl mD kD bD .nil (pa_cons (pv 11) pa_nil)) (passes_call (takes_of rfl rfl rfl rfl) fun _ _ _ _ z => z.1) (fun _ _ _ z => z.2) (hr2.mono (by decide)) (by rfl) G.lst (by decide +kernel)) fun _ _ h => h)) pa_nil)))
    (pss_cons (ps_set (i := 5) scRef4.nd rfl (Or.inl rfl) (pe_op op_cat (pv 5) (pe_lst (pa_cons (pe_tup (pa_cons pe_str (pa_cons pe_str pa_nil))) (pa_cons (pe_tup (pa_cons pe_str (pa_cons (pv 12) pa_nil))) (pa_cons (pe_tup (pa_cons pe_str (pa_cons (pv 10) pa_nil))) (pa_cons (pe_tup (pa_cons pe_str (pa_cons pe_str pa_nil))) (pa_cons (pe_tup (pa_cons pe_str (pa_cons pe_str pa_nil))) pa_nil))))))))
    (pss_cons (ps_if (pt_cmpR op_gt (pv 3) pe_int (nomark _)) (pss_cons (ps_expr (pe_bm PySem.F.plainAttrs_list PySem.F.slot_list_extend PySem.F.type_list_extend mt_extend (pv 4) (pa_cons (pe_lst (pa_cons (pe_hd (X := (cxOf CX0 P w K mg base nRef4 "_law_refused_right" (defScope sRefused) f (.ref cc) A outer s H E).nox) (T := T) G HF TB hr rfl rfl memT uniT (lamS_by (sc := defScope sRefused) (by decide +kernel)) rfl (fun _ _ _ _ _ => rfl)
        (fun σ0 A2 o2 s2 H2 E2 f2 c2 hr2 cf => pe_at (pe_call (E := E2) GS1 (hr2.mono (by decide)) rfl mS1 kS1 bS1 .nil (passes_call (takes_of rfl rfl rfl rfl) fun _ _ _ _ z => z) (pa_cons (pv 1) (pa_cons (pe_lst (pa_cons (pe_op op_sub (pv 3) pe_int) (pa_cons pe_int (pa_cons (pe_op op_sub (pv 3) pe_int) (pa_cons pe_int pa_nil))))) pa_nil))) fun _ _ h => h)) (pa_cons (pe_hd (X := (cxOf CX0 P w K mg base nRef4 "_law_refused_right" (defScope sRefused) f (.ref cc) A outer s H E).nox) (T := T) G HF TB hr rfl rfl memT uniT (lamS_by (sc := defScope sRefused) (by decide +kernel)) rfl (fun _ _ _ _ _ => rfl)
        (fun σ0 A2 o2 s2 H2 E2 f2 c2 hr2 cf => pe_at (pe_listG (k := 8) (E := EN K E2) (pgen_call (E := EN K E2) GA (hr2.mono (by decide)) rfl mA kA bA .nil (pa_cons (pv 1) (pa_cons (pe_lst (pa_cons (pe_op op_sub (pv 3) pe_int) (pa_cons pe_int (pa_cons (pe_op op_sub (pv 3) pe_int) pa_nil)))) pa_nil))) (passes_call (takes_of rfl rfl rfl rfl) fun _ _ _ _ z => z.1) (fun _ _ _ z => z.2) (hr2.mono (by decide)) (by rfl) G.lst (by decide +kernel)) fun _ _ h => h)) pa_nil))) pa_nil)))
      (pss_one (ps_set (i := 5) scRef4.nd rfl (Or.inl rfl) (pe_op op_cat (pv 5) (pe_op op_rep (pe_lst (pa_cons (pe_tup (pa_cons pe_str (pa_cons (pe_op op_sub (pv 3) pe_int) pa_nil))) pa_nil)) pe_int))))) pss_nil)
    (pss_cons (ps_set (i := 9) scRef4.nd rfl (Or.inr rfl) (pe_make (E := E0) Mm GM r9 rfl M.g bM .nil passL (pa_cons (pv 2) (pa_cons (pe_op op_rep (pe_lst (pa_cons (pe_make Hm GH r8 rfl MH.g bH .nil pass0 (pa_cons (pe_ix ix_list (pv 2) pe_int (fun _ _ => rfl)) (pa_cons (pe_ix ix_list (pv 2) pe_int (fun _ _ => rfl)) (pa_cons pe_int (pa_cons pe_int pa_nil))))) pa_nil)) pe_int) pa_nil))))
    (pss_cons (ps_expr (pe_bm PySem.F.plainAttrs_list PySem.F.slot_list_append PySem.F.type_list_append mt_append (pv 4) (pa_cons (pe_hd (X := (cxOf CX0 P w K mg base nRef4 "_law_refused_right" (defScope sRefused) f (.ref cc) A outer s H E).nox) (T := T) G HF TB hr rfl rfl memT uniT (lamS_by (sc := defScope sRefused) (by decide +kernel)) rfl (fun _ _ _ _ _ => rfl)
        (fun σ0 A2 o2 s2 H2 E2 f2 c2 hr2 cf => pe_at (pe_listG (k := 4) (E := EN K E2) (pgen_call (E := EN K E2) GD (hr2.mono (by decide)) rfl mD kD bD .nil (pa_cons (pv 9) pa_nil)) (passes_call (takes_of rfl rfl rfl rfl) fun _ _ _ _ z => z.1) (fun _ _ _ z => z.2) (hr2.mono (by decide)) (by rfl) G.lst (by decide +kernel)) fun _ _ h => h)) pa_nil)))
    (pss_one (ps_ret (pe_cmpR op_eq (pe_callB (r := rRepr _ []) (call_reprX gd2) (by rfl) G.repr (by decide +kernel) (pa_cons (pv 4) pa_nil)) (pe_callB (r := rRepr _ []) (call_reprX gd2) (by rfl) G.repr (by decide +kernel) (pa_cons (pe_op op_cat (pv 5) (pe_lst (pa_cons (pe_tup (pa_cons pe_str (pa_cons pe_int pa_nil))) pa_nil))) pa_nil)) (nomark _))))))))))))))))))), ?_⟩
  have sz : sizeLine = 16777216 := sizeLine_eq
  have nm := fun n hn => (dr n hn).nm
  obtain ⟨dx, ps, ph, pq, as, nas, h1, h2, h3, h4, h5, h6⟩ := id ha
  have at0 : ns[0]? = some (ns.getD 0 "") := getD_at (by omega)
  have at1 : ns[1]? = some (ns.getD 1 "") := getD_at (by omega)
  have in0 : ns.getD 0 "" ∈ ns := getD_in (by omega)
  have in1 : ns.getD 1 "" ∈ ns := getD_in (by omega)
  have nm0 := nm _ in0
  have ne01 : ns.getD 0 "" ≠ ns.getD 1 "" := fun e => absurd (getD_inj nd (by omega) (by omega) e) (by decide)
  -- odd
  refine seq_any (R := fun v H' => Keep p H H' ∧ Pen H' p c (n + 1) ∧ ∀ H3, Keep p H' H3 → OddV K H3 v) (fun Q2 kq => ?_) ?_
  · refine ⟨_, rfl, _, rfl, _, rfl, a, CS, dx, _, _, rfl, h1, R.cl, R.nH, fs_h _ _ _, (by show 5 ≤ sizeLine; omega), fun l nl => ?_⟩
    have s1 := upd_new (o := .lst [V.non, .ref nm', .str "swap", .int 3, .ref ph]) nl
    have hl : upd H l (.lst [V.non, .ref nm', .str "swap", .int 3, .ref ph]) l = some (.lst [V.non, .ref nm', .str "swap", .int 3, .ref ph]) := upd_same
    generalize upd H l (.lst [V.non, .ref nm', .str "swap", .int 3, .ref ph]) = H1 at s1 hl ⊢
    refine ⟨p, c, l, _, _, rfl, .inl hl, (pn.ne nl).1.symm, (by show 0 < 5; decide), (by show 5 < 1000; decide), pn.same s1, by omega, fun i x H2 ex k2 pn2 => kq _ _ ⟨(theKeep s1).trans k2, pn2, fun H3 kk => ?_⟩⟩
    have k2 := k2.trans kk
    obtain ⟨pcs, pt, pr, hpp, _⟩ := id (pn.same s1)
    match i, ex with
    | 0, ex => cases ex; exact ⟨"NoneType", by decide, .non⟩
    | 1, ex => cases ex; exact ⟨"list", by decide, .lst (k2 _ _ np (s1 _ _ hnm))⟩
    | 2, ex => cases ex; exact ⟨"str", by decide, .str _⟩
    | 3, ex => cases ex; exact ⟨"int", by decide, .int _⟩
    | 4, ex => cases ex; exact ⟨"tuple", by decide, .tup (k2 _ _ (ne_of (s1 _ _ h3) hpp (fun z => nomatch z)) (s1 _ _ h3))⟩
    | i + 5, ex => exact nomatch ex
  rintro vo H1 ⟨k1, pn1, odd1⟩
  have hnm1 := k1 _ _ np hnm
  -- bad
  refine seq_any (R := fun v H' => Keep p H1 H' ∧ Pen H' p c (n + 2) ∧ ∀ H3, Keep p H' H3 → BadV K H3 v) (fun Q2 kq => ?_) ?_
  · refine ⟨_, rfl, fun dd ndd => ?_⟩
    have sd := upd_new (o := .dK []) ndd
    have ed : upd H1 dd (.dK []) dd = some (.dK []) := upd_same
    have pd := (pn1.ne ndd).1.symm
    have pn1d := pn1.same sd
    generalize upd H1 dd (.dK []) = Ha at sd ed pn1d ⊢
    refine ⟨(by show 1 ≤ sizeLine; omega), fun la nla => ?_⟩
    have sa := upd_new (o := .lst [V.bl true]) nla
    have ea : upd Ha la (.lst [V.bl true]) la = some (.lst [V.bl true]) := upd_same
    have pa := (pn1d.ne nla).1.symm
    have pna := pn1d.same sa
    generalize upd Ha la (.lst [V.bl true]) = Hb at sa ea pna ⊢
    refine ⟨(by show 2 ≤ sizeLine; omega), fun lb nlb => ?_⟩
    have sb := upd_new (o := .lst [V.int 0, .non]) nlb
    have eb : upd Hb lb (.lst [V.int 0, .non]) lb = some (.lst [V.int 0, .non]) := upd_same
    have pb := (pna.ne nlb).1.symm
    have pnb := pna.same sb
    generalize upd Hb lb (.lst [V.int 0, .non]) = Hc at sb eb pnb ⊢
    refine ⟨(by show 1 ≤ sizeLine; omega), fun tc ntc => ?_⟩
    have sc := upd_new (o := .tup [V.str "0"]) ntc
    have ec : upd Hc tc (.tup [V.str "0"]) tc = some (.tup [V.str "0"]) := upd_same
    have pc := (pnb.ne ntc).1.symm
    have pnc := pnb.same sc
    generalize upd Hc tc (.tup [V.str "0"]) = Hd' at sc ec pnc ⊢
    refine ⟨(by show 1 ≤ sizeLine; omega), fun le nle => ?_⟩
    have se := upd_new (o := .lst [V.int 0]) nle
    have ee : upd Hd' le (.lst [V.int 0]) le = some (.lst [V.int 0]) := upd_same
    have pe := (pnc.ne nle).1.symm
    have pne := pnc.same se
    generalize upd Hd' le (.lst [V.int 0]) = He at se ee pne ⊢
    refine ⟨(by show 1 ≤ sizeLine; omega), fun lf nlf => ?_⟩
    have sf := upd_new (o := .lst [V.ref le]) nlf
    have ef : upd He lf (.lst [V.ref le]) lf = some (.lst [V.ref le]) := upd_same
    have pf := (pne.ne nlf).1.symm
    have pnf := pne.same sf
    generalize upd He lf (.lst [V.ref le]) = Hf at sf ef pnf ⊢
    refine ⟨(by show 8 ≤ sizeLine; omega), fun l nl => ?_⟩
    have sg := upd_new (o := .lst [V.non, .str "0", .int 0, .ref dd, .ref la, .ref lb, .ref tc, .ref lf]) nl
    have eg : upd Hf l (.lst [V.non, .str "0", .int 0, .ref dd, .ref la, .ref lb, .ref tc, .ref lf]) l = some (.lst [V.non, .str "0", .int 0, .ref dd, .ref la, .ref lb, .ref tc, .ref lf]) := upd_same
    have pg := (pnf.ne nl).1.symm
    have png := pnf.same sg
    generalize upd Hf l (.lst [V.non, .str "0", .int 0, .ref dd, .ref la, .ref lb, .ref tc, .ref lf]) = Hg at sg eg png ⊢
    have fg := sf.trans sg
    have eg' := se.trans fg
    have cg := sc.trans eg'
    have bg := sb.trans cg
    have ag := sa.trans bg
    refine ⟨p, c, l, _, _, rfl, .inl eg, pg, (by show 0 < 8; decide), (by show 8 < 1000; decide), png, by omega, fun i x H5 ex k5 pn5 => kq _ _ ⟨(theKeep (sd.trans ag)).trans k5, pn5, fun H3 kk => ?_⟩⟩
    have k5 := k5.trans kk
    match i, ex with
    | 0, ex => cases ex; exact .inl (NotSeq.of .non (by simp))
    | 1, ex => cases ex; exact .inl (NotSeq.of (.str _) (by simp))
    | 2, ex => cases ex; exact .inl (NotSeq.of (.int _) (by simp))
    | 3, ex => cases ex; exact .inl (NotSeq.of (.dK (k5 _ _ pd (ag _ _ ed))) (by simp))
    | 4, ex =>
      cases ex
      refine .inr ⟨la, _, [false], rfl, .inl (k5 _ _ pa (bg _ _ ea)), (by show 1 ≤ 1000; decide), ⟨rfl, fun j y ey => ?_⟩, rfl⟩
      match j, ey with
      | 0, ey => cases ey; exact ⟨_, rfl, .inr ⟨rfl, NotInt.bl true⟩⟩
    | 5, ex =>
      cases ex
      refine .inr ⟨lb, _, [true, false], rfl, .inl (k5 _ _ pb (cg _ _ eb)), (by show 2 ≤ 1000; decide), ⟨rfl, fun j y ey => ?_⟩, rfl⟩
      match j, ey with
      | 0, ey => cases ey; exact ⟨_, rfl, .inl ⟨rfl, _, rfl⟩⟩
      | 1, ey => cases ey; exact ⟨_, rfl, .inr ⟨rfl, NotInt.of .non (by simp)⟩⟩
    | 6, ex =>
      cases ex
      refine .inr ⟨tc, _, [false], rfl, .inr (k5 _ _ pc (eg' _ _ ec)), (by show 1 ≤ 1000; decide), ⟨rfl, fun j y ey => ?_⟩, rfl⟩
      match j, ey with
      | 0, ey => cases ey; exact ⟨_, rfl, .inr ⟨rfl, NotInt.of (.str _) (by simp)⟩⟩
    | 7, ex =>
      cases ex
      refine .inr ⟨lf, _, [false], rfl, .inl (k5 _ _ pf (sg _ _ ef)), (by show 1 ≤ 1000; decide), ⟨rfl, fun j y ey => ?_⟩, rfl⟩
      match j, ey with
      | 0, ey => cases ey; exact ⟨_, rfl, .inr ⟨rfl, NotInt.of (.lst (k5 _ _ pe (fg _ _ ee))) (by simp)⟩⟩
    | i + 8, ex => exact nomatch ex
  rintro vb H2 ⟨k2, pn2, bad2⟩
  have k02 := k1.trans k2
  have hnm2 := k02 _ _ np hnm
  -- strange
  refine seq_any (R := fun v H' => Keep p H2 H' ∧ Pen H' p c (n + 3) ∧ ∀ H4, Keep p H' H4 → StrV K ns (ns.getD 0 "") H4 v) (fun Q2 kq => ?_) ?_
  · have a0 : atI (ns.map V.str) 0 = some (.str (ns.getD 0 "")) := atI_nat (j := 0) (by rw [List.getElem?_map, at0]; rfl)
    have ln0 : (ns.getD 0 "").length ≤ 12 := nm0.l2
    refine ⟨_, rfl, _, rfl, nm', _, _, _, rfl, rfl, SqL.of hnm2, a0, _, _, rfl, rfl, ?_, ?_⟩
    · show (ns.getD 0 "").length + nineX.length ≤ sizeLine
      have : nineX.length = 9 := by decide +kernel
      omega
    refine ⟨_, rfl, nm', _, _, _, rfl, rfl, SqL.of hnm2, a0, ⟨_, rfl⟩, _, rfl, rfl, by omega, ?_⟩
    refine ⟨_, rfl, nm', _, _, _, rfl, rfl, SqL.of hnm2, a0, (by show 1 ≤ sizeLine; omega), fun lx nlx => ?_⟩
    have sx := upd_new (o := .lst [V.str (ns.getD 0 "")]) nlx
    have ex' : upd H2 lx (.lst [V.str (ns.getD 0 "")]) lx = some (.lst [V.str (ns.getD 0 "")]) := upd_same
    have px := (pn2.ne nlx).1.symm
    have pnx := pn2.same sx
    generalize upd H2 lx (.lst [V.str (ns.getD 0 "")]) = Ha at sx ex' pnx ⊢
    refine ⟨(by show 7 ≤ sizeLine; omega), fun l nl => ?_⟩
    have sg := upd_new (o := .lst [V.str (Str.ofString ""), .non, .int 3, .str (ns.getD 0 "" ++ nineX), .str (Txt.upper (ns.getD 0 "")), .ref lx, .bl true]) nl
    have eg : upd Ha l (.lst [V.str (Str.ofString ""), .non, .int 3, .str (ns.getD 0 "" ++ nineX), .str (Txt.upper (ns.getD 0 "")), .ref lx, .bl true]) l = some (.lst [V.str (Str.ofString ""), .non, .int 3, .str (ns.getD 0 "" ++ nineX), .str (Txt.upper (ns.getD 0 "")), .ref lx, .bl true]) := upd_same
    have pg := (pnx.ne nl).1.symm
    have png := pnx.same sg
    refine ⟨p, c, l, _, _, rfl, .inl eg, pg, (by show 0 < 7; decide), (by show 7 < 1000; decide), png, by omega, fun i x H5 ex k5 pn5 => kq _ _ ⟨(theKeep (sx.trans sg)).trans k5, pn5, fun H4 kk => ?_⟩⟩
    have k5 := k5.trans kk
    match i, ex with
    | 0, ex => cases ex; exact sv_emp nm
    | 1, ex => cases ex; exact sv_non
    | 2, ex => cases ex; exact sv_three
    | 3, ex => cases ex; exact sv_long dr nm0
    | 4, ex => cases ex; exact sv_up nm nm0
    | 5, ex => cases ex; exact sv_lst nm0 (k5 _ _ px (sg _ _ ex'))
    | 6, ex => cases ex; exact sv_true
    | i + 7, ex => exact nomatch ex
  rintro vs H3 ⟨k3, pn3, str3⟩
  have k03 := k02.trans k3
  -- far
  refine seq_any (R := fun v H' => Keep p H3 H' ∧ Pen H' p c (n + 4) ∧ ∃ m : Int, v = .int m ∧ ¬ InM (hs.length : Nat) m ∧ m.natAbs < 2 ^ 200) (fun Q2 kq => ?_) ?_
  · refine ⟨_, rfl, _, rfl, 1, rfl, _, rfl, _, _, rfl, rfl, _, _, rfl, rfl, ⟨by decide, by decide, by decide⟩, (by show 4 ≤ sizeLine; omega), fun l nl => ?_⟩
    have sg := upd_new (o := .lst [V.int (hs.length : Nat), .int (-1), .int ((hs.length : Nat) + 7), .int ((10 : Int) ^ (30 : Int).toNat)]) nl
    have eg : upd H3 l (.lst [V.int (hs.length : Nat), .int (-1), .int ((hs.length : Nat) + 7), .int ((10 : Int) ^ (30 : Int).toNat)]) l = some (.lst [V.int (hs.length : Nat), .int (-1), .int ((hs.length : Nat) + 7), .int ((10 : Int) ^ (30 : Int).toNat)]) := upd_same
    refine ⟨p, c, l, _, _, rfl, .inl eg, (pn3.ne nl).1.symm, (by show 0 < 4; decide), (by show 4 < 1000; decide), pn3.same sg, by omega, fun i x H5 ex k5 pn5 => kq _ _ ⟨(theKeep sg).trans k5, pn5, ?_⟩⟩
    have big : (2 : Nat) ^ 10 ≤ 2 ^ 200 := Nat.pow_le_pow_right (by decide) (by decide)
    match i, ex with
    | 0, ex => cases ex; exact ⟨_, rfl, fun z => by have := z.2; omega, by omega⟩
    | 1, ex => cases ex; exact ⟨_, rfl, fun z => by have := z.1; omega, by decide⟩
    | 2, ex => cases ex; exact ⟨_, rfl, fun z => by have := z.2; omega, by omega⟩
    | 3, ex => cases ex; exact ⟨_, rfl, fun z => by have := z.2; rw [show ((10 : Int) ^ (30 : Int).toNat) = 1000000000000000000000000000000 by decide] at this; omega, by decide⟩
    | i + 4, ex => exact nomatch ex
  rintro _ HA ⟨k4, pn4, m, rfl, fm, ml⟩
  have k04 := k03.trans k4
  have tbA : Tabs T HA := pn.tabs k04 tb
  have hnmA := k04 _ _ np hnm
  have swA := ha.keepP pn k04
  have oddA := odd1 _ ((k2.trans k3).trans k4)
  have badA := bad2 _ (k3.trans k4)
  have strA := str3 _ k4
  have l50 : hs.length ≤ 50 := by omega
  have NSw : ∀ {H1 : Hp}, ExtN HA H1 → NotSw K CS H1 vo := fun x => OddV.notSw O (oddA.extN x)
  show tSeq _ _ _ [some (V.ref p), some (.ref a), some (.ref nm'), some (.int (hs.length : Nat)), none, none, none, none, some vb, none, some (.int m), some vo, some vs] HA
  refine hd_emp tbA fun L B0 hd0 => ?_
  show tSeq _ _ _ [some (V.ref p), some (.ref a), some (.ref nm'), some (.int (hs.length : Nat)), some (.ref L), none, none, none, some vb, none, some (.int m), some vo, some vs] B0
  -- the first three
  refine ⟨(by show 3 ≤ sizeLine; omega), fun t1 nt1 => ⟨t1, rfl, ⟨_, SqT.of upd_same⟩, ?_⟩⟩
  have s01 := upd_new (o := .tup [V.ref fS1, .ref fS2, .ref fS3]) nt1
  have ht1 : upd B0 t1 (.tup [V.ref fS1, .ref fS2, .ref fS3]) t1 = some (.tup [V.ref fS1, .ref fS2, .ref fS3]) := upd_same
  have hd1 := hd0.same s01
  have tL1 : t1 ≠ L := (hd0.ne_new nt1).symm
  generalize upd B0 t1 (.tup [V.ref fS1, .ref fS2, .ref fS3]) = B1 at s01 ht1 hd1 ⊢
  obtain ⟨hdR, xA⟩ := hd1.rebase
  have ht1' : delH B1 L t1 = some (.tup [V.ref fS1, .ref fS2, .ref fS3]) := by rw [delH_ne tL1]; exact ht1
  generalize delH B1 L = HB at hdR xA ht1'
  refine for_it (walk_tup (K := K) (a := t1) (xs := [V.ref fS1, .ref fS2, .ref fS3])) (fun i σ H => ∃ z6 : Option V, σ = [some (V.ref p), some (.ref a), some (.ref nm'), some (.int (hs.length : Nat)), some (.ref L), none, z6, none, some vb, none, some (.int m), some vo, some vs] ∧ Hd T HB L (List.replicate i (pat1 m)).flatten H)
    ⟨none, rfl, hdR⟩ (fun i σ H _ ⟨_, _, hd⟩ => SqT.of (hd.ext _ _ ht1' (fun _ z => nomatch z))) ?_ ?_
  · rintro i x σ H7 H8 hi ⟨z6, rfl, hd⟩ ⟨rfl, ex⟩
    have l3 : i < 3 := hi
    obtain ⟨f', rfl, hf⟩ : ∃ f', x = .ref f' ∧ (f' = fS1 ∨ f' = fS2 ∨ f' = fS3) := by
      match i, ex with
      | 0, ex => cases ex; exact ⟨_, rfl, .inl rfl⟩
      | 1, ex => cases ex; exact ⟨_, rfl, .inr (.inl rfl)⟩
      | 2, ex => cases ex; exact ⟨_, rfl, .inr (.inr rfl)⟩
      | i + 3, ex => exact nomatch ex
    have ll : ((List.replicate i (pat1 m)).flatten).length ≤ 10 := by rw [List.length_flatten, List.map_replicate, List.sum_replicate_nat]; show i * 3 ≤ 10; omega
    show tSeq _ _ _ [some (V.ref p), some (.ref a), some (.ref nm'), some (.int (hs.length : Nat)), some (.ref L), none, some (.ref f'), none, some vb, none, some (.int m), some vo, some vs] _
    refine hd_ext (K := K) (oA := some (.str "swap", .str "swap")) (oB := some (.str "done", .str "done")) hd (by omega) rfl
      (one_err (Cx := CW) hw_w fun H1 x1 E1 Q1 hE => ask2 rfl hf fun P k => ⟨_, rfl, _, rfl, k _ _ _ fun cont => .inl ⟨NSw (xA.trans x1), hE⟩⟩)
      (one_err (Cx := CD) hw_d fun H1 x1 E1 Q1 hE => ask2 rfl hf fun P k => ⟨_, rfl, _, rfl, k _ _ _ fun cont => .inr ⟨a, ns, hs, rfl, swA.extN (xA.trans x1), okh, l50, n6, .inl ⟨badA.extN (xA.trans x1), hE⟩⟩⟩) fun B2 hd2 => ?_
    refine hd_app (K := K) (oA := some (.str "hand", .int m)) hd2 (by rw [List.length_append]; show _ + 2 ≤ 100; omega) rfl
      (one_err (Cx := CI) hw_i fun H1 x1 E1 Q1 hE => ask2 rfl hf fun P k => ⟨_, rfl, _, rfl, _, rfl, (by show 2 ≤ sizeLine; omega), fun l nl => k _ _ _ fun cont => .inr ⟨a, ns, hs, rfl, (swA.extN (xA.trans x1)).same (upd_new nl), okh, l50, n6,
        hw_far (js := [m, m]) (.inl upd_same) (by show 2 ≤ 1000; decide) (by simp) (by simp) fm fun d H' t => hE d H' (t.from (upd_new nl))⟩⟩) fun B3 hd3 => ?_
    refine ⟨_, rfl, ?_⟩
    rw [List.replicate_succ', List.flatten_append]
    rw [List.append_assoc] at hd3
    simpa [pat1] using hd3
  rintro σ B2 ⟨z6, rfl, hd2⟩
  -- due
  show tSeq _ _ _ [some (V.ref p), some (.ref a), some (.ref nm'), some (.int (hs.length : Nat)), some (.ref L), none, z6, none, some vb, none, some (.int m), some vo, some vs] B2
  refine seq_any (R := fun v H' => ∃ D1, v = .ref D1 ∧ Same B2 H' ∧ B2 D1 = none ∧ Du H' D1 (List.replicate 3 (pat1 m)).flatten) (fun Q2 kq => du_rep (j := 3) (os := pat1 m) (fun Q' kk => tups_lst (tups_cons val_c val_c (tups_cons val_c val_c (tups_cons val_c (val_var rfl) tups_nil))) (by show 3 ≤ 100; decide) kk) (by decide) (by show 3 ≤ 100; decide) fun D1 B3 s3 n3 d3 => kq _ _ ⟨D1, rfl, s3, n3, d3⟩) ?_
  rintro _ B3 ⟨D1, rfl, s3, n3, du3⟩
  have hd3 := hd2.same s3
  have nD1 : D1 ≠ L := (hd2.ne_new n3).symm
  show tSeq _ _ _ [some (V.ref p), some (.ref a), some (.ref nm'), some (.int (hs.length : Nat)), some (.ref L), some (.ref D1), z6, none, some vb, none, some (.int m), some vo, some vs] B3
  -- the other three
  refine ⟨(by show 3 ≤ sizeLine; omega), fun t2 nt2 => ⟨t2, rfl, ⟨_, SqT.of upd_same⟩, ?_⟩⟩
  have s34 := upd_new (o := .tup [V.ref fO1, .ref fO2, .ref fO3]) nt2
  have ht2 : upd B3 t2 (.tup [V.ref fO1, .ref fO2, .ref fO3]) t2 = some (.tup [V.ref fO1, .ref fO2, .ref fO3]) := upd_same
  have hd4 := hd3.same s34
  have du4 := du3.extN (Same.extN s34)
  have tL2 : t2 ≠ L := (hd3.ne_new nt2).symm
  generalize upd B3 t2 (.tup [V.ref fO1, .ref fO2, .ref fO3]) = B4 at s34 ht2 hd4 du4 ⊢
  obtain ⟨vsL, hL4, _⟩ := hd4.l
  obtain ⟨hdS, xB⟩ := hd4.rebase
  have ht2' : delH B4 L t2 = some (.tup [V.ref fO1, .ref fO2, .ref fO3]) := by rw [delH_ne tL2]; exact ht2
  have duS := du4.del hL4 nD1
  generalize delH B4 L = HC at hdS xB ht2' duS
  have xAC : ExtN HA HC := xA.trans xB
  have tw : ∀ {H1 : Hp} {l : Addr} {E1 : XK} {part : V} {k : List Int → Addr → Prop}, H1 l = some (.lst [.int 0, .int 0]) → (∀ d H', ToldF H1 H' d [(if 0 < hs.length then "value" else "number", .int 0)] → E1 (.ref (if 0 < hs.length then CT else CI)) (some d) H') → HandsW K CD CI CT (hs.length : Nat) (.ref l) part H1 E1 k := by
    intro H1 l E1 part k hl hE
    rcases Nat.eq_zero_or_pos hs.length with z | z
    · rw [if_neg (by omega), if_neg (by omega)] at hE
      exact hw_far (js := [0, 0]) (.inl hl) (by show 2 ≤ 1000; decide) (by simp) (by simp) (fun y => by have := y.2; omega) hE
    · rw [if_pos z, if_pos z] at hE
      exact hw_dup (js := [0, 0]) (.inl hl) (by show 2 ≤ 1000; decide) (fun j mj => by simp at mj; rw [mj]; exact ⟨by decide, by omega⟩) dup00 (by simp) hE
  have hw0 : ∀ d H' Q, H' d = some (.xd [(if 0 < hs.length then "value" else "number", V.int 0)]) → Tell H' (.str (if 0 < hs.length then "twice" else "hand")) (.int 0) Q → HeardW CW CD CI CT CN CM (.ref (if 0 < hs.length then CT else CI)) (some d) H' Q := by
    intro d H' Q e k
    rcases Nat.eq_zero_or_pos hs.length with z | z
    · rw [if_neg (by omega)] at e k ⊢
      exact hw_i d H' Q e k
    · rw [if_pos z] at e k ⊢
      exact hw_t d H' Q e k
  refine for_it (walk_tup (K := K) (a := t2) (xs := [V.ref fO1, .ref fO2, .ref fO3])) (fun i σ H => ∃ z7 : Option V, σ = [some (V.ref p), some (.ref a), some (.ref nm'), some (.int (hs.length : Nat)), some (.ref L), some (.ref D1), z6, z7, some vb, none, some (.int m), some vo, some vs] ∧ Hd T HC L ((List.replicate 3 (pat1 m)).flatten ++ (List.replicate i (pat2 m hs.length vs)).flatten) H)
    ⟨none, rfl, by simpa using hdS⟩ (fun i σ H _ ⟨_, _, hd⟩ => SqT.of (hd.ext _ _ ht2' (fun _ z => nomatch z))) ?_ ?_
  · rintro i x σ H7 H8 hi ⟨z7, rfl, hd⟩ ⟨rfl, ex⟩
    have l3 : i < 3 := hi
    obtain ⟨f', rfl, hf⟩ : ∃ f', x = .ref f' ∧ (f' = fO1 ∨ f' = fO2 ∨ f' = fO3) := by
      match i, ex with
      | 0, ex => cases ex; exact ⟨_, rfl, .inl rfl⟩
      | 1, ex => cases ex; exact ⟨_, rfl, .inr (.inl rfl)⟩
      | 2, ex => cases ex; exact ⟨_, rfl, .inr (.inr rfl)⟩
      | i + 3, ex => exact nomatch ex
    have ll : ((List.replicate 3 (pat1 m)).flatten ++ (List.replicate i (pat2 m hs.length vs)).flatten).length ≤ 30 := by rw [List.length_append, rep_len, rep_len]; show 3 * 3 + i * 5 ≤ 30; omega
    generalize e0 : (List.replicate 3 (pat1 m)).flatten ++ (List.replicate i (pat2 m hs.length vs)).flatten = os0 at hd ll
    show tSeq _ _ _ [some (V.ref p), some (.ref a), some (.ref nm'), some (.int (hs.length : Nat)), some (.ref L), some (.ref D1), z6, some (.ref f'), some vb, none, some (.int m), some vo, some vs] _
    refine hd_ext (K := K) (oA := some (.str "swap", .str "swap")) (oB := some (.str "hand", .int m)) hd (by omega) rfl
      (one_err (Cx := CW) hw_w fun H1 x1 E1 Q1 hE => ask3 rfl hf fun P k => ⟨_, rfl, _, rfl, _, rfl, k _ _ _ _ fun cont => .inl ⟨NSw (xAC.trans x1), hE⟩⟩)
      (one_err (Cx := CI) hw_i fun H1 x1 E1 Q1 hE => ask3 rfl hf fun P k => ⟨_, rfl, _, rfl, (by show 1 ≤ sizeLine; omega), fun l nl => ⟨_, rfl, k _ _ _ _ fun cont => .inr ⟨a, ns, hs, rfl, (swA.extN (xAC.trans x1)).same (upd_new nl), okh, l50, n6,
        hw_far (js := [m]) (.inl upd_same) (by show 1 ≤ 1000; decide) (by simp) (by simp) fm fun d H' t => hE d H' (t.from (upd_new nl))⟩⟩⟩) fun B5 hd5 => ?_
    refine hd_ext (K := K) (oA := some (.str "stranger", vs)) (oB := some (.str "done", .str "done")) hd5 (by rw [List.length_append]; show _ + 2 ≤ 100; omega) rfl
      (one_err (Cx := CN) hw_u fun H1 x1 E1 Q1 hE => ask3 rfl hf fun P k => ⟨_, rfl, (by show 0 ≤ sizeLine; omega), fun l nl => ⟨_, rfl, k _ _ _ _ fun cont => .inr ⟨a, ns, hs, rfl, (swA.extN (xAC.trans x1)).same (upd_new nl), okh, l50, n6,
        .inr ⟨l, [], rfl, .inr upd_same, (by show 0 ≤ 1000; decide), fun i n e => (nomatch e), fun _ i n dp => (nomatch dp.1), fun _ _ => ⟨[], ⟨.refl _, .nil, fun _ z => nomatch z⟩, .inr ⟨(strA.extN (xAC.trans x1)).st.same (upd_new nl), fun d H' t => hE d H' (t.from (upd_new nl))⟩⟩⟩⟩⟩⟩)
      (one_err (Cx := CD) hw_d fun H1 x1 E1 Q1 hE => ask3 rfl hf fun P k => ⟨_, rfl, _, rfl, _, rfl, k _ _ _ _ fun cont => .inr ⟨a, ns, hs, rfl, swA.extN (xAC.trans x1), okh, l50, n6, .inl ⟨badA.extN (xAC.trans x1), hE⟩⟩⟩) fun B6 hd6 => ?_
    refine hd_app (K := K) (oA := some (.str (if 0 < hs.length then "twice" else "hand"), .int 0)) hd6 (by rw [List.length_append, List.length_append]; show _ + 2 + 2 ≤ 100; omega) rfl
      (one_err hw0 fun H1 x1 E1 Q1 hE => ask3 rfl hf fun P k => ⟨_, rfl, (by show 2 ≤ sizeLine; omega), fun l nl => ⟨_, rfl, k _ _ _ _ fun cont => .inr ⟨a, ns, hs, rfl, (swA.extN (xAC.trans x1)).same (upd_new nl), okh, l50, n6,
        tw upd_same fun d H' t => hE d H' (t.from (upd_new nl))⟩⟩⟩) fun B7 hd7 => ?_
    refine ⟨_, rfl, ?_⟩
    rw [show (List.replicate (i + 1) (pat2 m hs.length vs)).flatten = (List.replicate i (pat2 m hs.length vs)).flatten ++ pat2 m hs.length vs by rw [List.replicate_succ', List.flatten_append]; simp, ← List.append_assoc, e0]
    rw [List.append_assoc, List.append_assoc] at hd7
    simpa [pat2] using hd7
  rintro σ B5 ⟨z7, rfl, hd5⟩
  have dux : Du B5 D1 (List.replicate 3 (pat1 m)).flatten := duS.extN hd5.ext
  -- due
  show tSeq _ _ _ [some (V.ref p), some (.ref a), some (.ref nm'), some (.int (hs.length : Nat)), some (.ref L), some (.ref D1), z6, z7, some vb, none, some (.int m), some vo, some vs] B5
  refine seq_any (R := fun v H' => ∃ D2, v = .ref D2 ∧ Same B5 H' ∧ B5 D2 = none ∧ Du H' D2 ((List.replicate 3 (pat1 m)).flatten ++ (List.replicate 3 (pat2 m hs.length vs)).flatten))
    (fun Q2 kq => du_cat rfl dux (by rw [rep_len, rep_len]; show 3 * 3 + 3 * 5 ≤ 1000; decide) (fun Q' kk => du_rep (j := 3) (os := pat2 m hs.length vs) (fun Q'' k2 => tups_lst (tups_cons val_c val_c (tups_cons val_c (val_var rfl) (tups_cons val_c (val_var rfl) (tups_cons val_c val_c (tups_cons (fun H' Q' q' => by
      refine ⟨_, rfl, _, _, rfl, rfl, decide (0 < hs.length), congrArg V.bl (by rw [Bool.eq_iff_iff, decide_eq_true_iff, decide_eq_true_iff]; omega), ?_⟩
      rcases Nat.eq_zero_or_pos hs.length with z | z
      · rw [if_neg (by omega)] at q'
        rw [decide_eq_false (by omega)]
        exact iteF q'
      · rw [if_pos z] at q'
        rw [decide_eq_true z]
        exact iteT q') val_c tups_nil))))) (by show 5 ≤ 100; decide) k2) (by decide) (by show 5 ≤ 100; decide) kk) fun D2 B6 s6 n6' d6 => kq _ _ ⟨D2, rfl, s6, n6', d6⟩) ?_
  rintro _ B6 ⟨D2, rfl, s6, n6', du6⟩
  have hd6 := hd5.same s6
  have nD2 : D2 ≠ L := (hd5.ne_new n6').symm
  obtain ⟨vsL6, hL6, _⟩ := hd6.l
  obtain ⟨hd6, xC⟩ := hd6.rebase
  replace du6 := du6.del hL6 nD2
  generalize delH B6 L = HE at hd6 xC du6
  have xAE : ExtN HA HE := xAC.trans xC
  have l24 : ((List.replicate 3 (pat1 m)).flatten ++ (List.replicate 3 (pat2 m hs.length vs)).flatten).length = 24 := by rw [List.length_append, rep_len, rep_len]; rfl
  generalize eos : (List.replicate 3 (pat1 m)).flatten ++ (List.replicate 3 (pat2 m hs.length vs)).flatten = os6 at hd6 du6 l24
  have pok : ∀ o ∈ os6, PairOk (ns.getD 0 "") HA o := by
    rw [← eos]
    intro o mo
    rcases List.mem_append.mp mo with mo | mo
    · refine all_rep (P := PairOk (ns.getD 0 "") HA) (fun o mo => ?_) 3 o mo
      simp only [pat1, List.mem_cons, List.not_mem_nil, or_false] at mo
      rcases mo with rfl | rfl | rfl
      · exact ⟨(show (reprText _).length ≤ 1000 by decide +kernel), (show (reprText _).length ≤ 1000 by decide +kernel)⟩
      · exact ⟨(show (reprText _).length ≤ 1000 by decide +kernel), (show (reprText _).length ≤ 1000 by decide +kernel)⟩
      · exact ⟨(show (reprText _).length ≤ 1000 by decide +kernel), ml⟩
    · refine all_rep (P := PairOk (ns.getD 0 "") HA) (fun o mo => ?_) 3 o mo
      simp only [pat2, List.mem_cons, List.not_mem_nil, or_false] at mo
      rcases mo with rfl | rfl | rfl | rfl | rfl
      · exact ⟨(show (reprText _).length ≤ 1000 by decide +kernel), (show (reprText _).length ≤ 1000 by decide +kernel)⟩
      · exact ⟨(show (reprText _).length ≤ 1000 by decide +kernel), ml⟩
      · exact ⟨(show (reprText _).length ≤ 1000 by decide +kernel), strA.tl⟩
      · exact ⟨(show (reprText _).length ≤ 1000 by decide +kernel), (show (reprText _).length ≤ 1000 by decide +kernel)⟩
      · refine ⟨?_, (show (0 : Int).natAbs < 2 ^ 200 by decide)⟩
        split <;> (show (reprText _).length ≤ 1000; decide +kernel)
  -- along, net
  show tSeq _ _ _ [some (V.ref p), some (.ref a), some (.ref nm'), some (.int (hs.length : Nat)), some (.ref L), some (.ref D2), z6, z7, some vb, none, some (.int m), some vo, some vs] B6
  obtain ⟨sx, sps, sph, spn, _, _, ha1, _⟩ := id swA
  refine hd_ext (K := K) (oA := some (.str "done", .str "numbers")) (oB := some (.str "stranger", vs)) hd6 (by omega) rfl
    (one_err (Cx := CD) hw_d fun H1 x1 E1 Q1 hE => ⟨_, rfl, _, rfl, _, _, rfl, .inr ⟨a, ns, hs, rfl, swA.extN (xAE.trans x1), okh, l50, n6, .inl ⟨badA.extN (xAE.trans x1), fun d H' t => ⟨hE d H' t, NS.d⟩⟩⟩⟩)
    (one_err (Cx := CN) hw_u fun H1 x1 E1 Q1 hE => ⟨_, rfl, a, sx, _, rfl, (xAE.trans x1) _ _ ha1 (fun _ z => nomatch z), fs_no _ _ _ (by decide +kernel) (by decide +kernel) (by decide +kernel), _, rfl, a, vs, ns, hs, rfl, swA.extN (xAE.trans x1), nd, .inr ⟨(strA.extN (xAE.trans x1)).st, hE⟩⟩) fun B7 hd7 => ?_
  refine hd_ext (K := K) (oA := some (.str "hand", .int m)) (oB := some (.str "swap", .str "swap")) hd7 (by rw [List.length_append]; show _ + 2 ≤ 100; omega) rfl
    (one_err (Cx := CI) hw_i fun H1 x1 E1 Q1 hE => ⟨_, rfl, _, rfl, _, rfl, (by show 2 ≤ sizeLine; omega), fun l nl => ⟨_, _, rfl, .inr ⟨a, ns, hs, rfl, (swA.extN (xAE.trans x1)).same (upd_new nl), okh, l50, n6,
      hw_far (js := [m, m]) (.inl upd_same) (by show 2 ≤ 1000; decide) (by simp) (by simp) fm fun d H' t => ⟨hE d H' (t.from (upd_new nl)), NS.i⟩⟩⟩⟩)
    (one_err (Cx := CW) hw_w fun H1 x1 E1 Q1 hE => ⟨_, rfl, _, rfl, _, _, rfl, .inl ⟨NSw (xAE.trans x1), fun d H' t => ⟨hE d H' t, NS.w⟩⟩⟩) fun B8 hd8 => ?_
  refine hd_app (K := K) (oA := some (.str "swap", .str "swap")) hd8 (by rw [List.length_append, List.length_append]; show _ + 2 + 2 ≤ 100; omega) rfl
    (one_err (Cx := CW) hw_w fun H1 x1 E1 Q1 hE => ⟨_, rfl, _, rfl, .inl ⟨NSw (xAE.trans x1), fun d H' t => ⟨hE d H' t, NS.w⟩⟩⟩) fun B9 hd9 => ?_
  have du9 := du6.extN hd9.ext
  -- due
  show tSeq _ _ _ [some (V.ref p), some (.ref a), some (.ref nm'), some (.int (hs.length : Nat)), some (.ref L), some (.ref D2), z6, z7, some vb, none, some (.int m), some vo, some vs] B9
  refine seq_any (R := fun v H' => ∃ D3, v = .ref D3 ∧ Same B9 H' ∧ B9 D3 = none ∧ Du H' D3 (os6 ++ pat3 m vs))
    (fun Q2 kq => du_cat rfl du9 (by rw [l24]; show 24 + 5 ≤ 1000; decide) (fun Q' kk => tups_lst (tups_cons val_c val_c (tups_cons val_c (val_var rfl) (tups_cons val_c (val_var rfl) (tups_cons val_c val_c (tups_cons val_c val_c tups_nil))))) (by show 5 ≤ 100; decide) kk) fun D3 B10 s10 n10 d10 => kq _ _ ⟨D3, rfl, s10, n10, d10⟩) ?_
  rintro _ B10 ⟨D3, rfl, s10, n10, du10⟩
  have hd10 := hd9.same s10
  have nD3 : D3 ≠ L := (hd9.ne_new n10).symm
  obtain ⟨vsL10, hL10, _⟩ := hd10.l
  have duB10 := du10
  have duF := du10.del hL10 nD3
  obtain ⟨hd10, xD⟩ := hd10.rebase
  generalize delH B10 L = HF' at hd10 xD duF
  have xAF : ExtN HA HF' := xAE.trans xD
  have e10 : os6 ++ [some (V.str "done", V.str "numbers"), some (V.str "stranger", vs)] ++ [some (V.str "hand", V.int m), some (V.str "swap", V.str "swap")] ++ [some (V.str "swap", V.str "swap")] = os6 ++ pat3 m vs := by
    rw [List.append_assoc, List.append_assoc]; rfl
  rw [e10] at hd10
  have pok10 : ∀ o ∈ os6 ++ pat3 m vs, PairOk (ns.getD 0 "") HA o := fun o mo => by
    rcases List.mem_append.mp mo with mo | mo
    · exact pok o mo
    · simp only [pat3, List.mem_cons, List.not_mem_nil, or_false] at mo
      rcases mo with rfl | rfl | rfl | rfl | rfl
      · exact ⟨(show (reprText _).length ≤ 1000 by decide +kernel), (show (reprText _).length ≤ 1000 by decide +kernel)⟩
      · exact ⟨(show (reprText _).length ≤ 1000 by decide +kernel), strA.tl⟩
      · exact ⟨(show (reprText _).length ≤ 1000 by decide +kernel), ml⟩
      · exact ⟨(show (reprText _).length ≤ 1000 by decide +kernel), (show (reprText _).length ≤ 1000 by decide +kernel)⟩
      · exact ⟨(show (reprText _).length ≤ 1000 by decide +kernel), (show (reprText _).length ≤ 1000 by decide +kernel)⟩
  have l29 : (os6 ++ pat3 m vs).length = 29 := by rw [List.length_append, l24]; rfl
  generalize os6 ++ pat3 m vs = os10 at hd10 duB10 duF pok10 l29
  -- twice
  show tSeq _ _ _ [some (V.ref p), some (.ref a), some (.ref nm'), some (.int (hs.length : Nat)), some (.ref L), some (.ref D3), z6, z7, some vb, none, some (.int m), some vo, some vs] B10
  refine seq_mid (fun σ' H' => ∃ (D4 : Addr) (os7 : List (Option (V × V))), σ' = [some (V.ref p), some (.ref a), some (.ref nm'), some (.int (hs.length : Nat)), some (.ref L), some (.ref D4), z6, z7, some vb, none, some (.int m), some vo, some vs] ∧ Hd T HF' L os7 H' ∧ Du H' D4 os7 ∧ D4 ≠ L ∧ (∀ o ∈ os7, PairOk (ns.getD 0 "") HA o) ∧ os7.length ≤ 40 ∧ 2 ≤ os7.length) (fun N kn => ?_) ?_
  · refine ⟨_, rfl, _, _, rfl, rfl, decide (0 < hs.length), congrArg V.bl (by rw [Bool.eq_iff_iff, decide_eq_true_iff, decide_eq_true_iff]; omega), ?_⟩
    rcases Nat.eq_zero_or_pos hs.length with z | z
    · rw [decide_eq_false (by omega)]
      exact iteF (kn _ _ ⟨D3, os10, rfl, hd10, duB10, nD3, pok10, by omega, by omega⟩)
    rw [decide_eq_true z]
    refine iteT ?_
    have inm : ∀ j ∈ [((hs.length : Nat) : Int) - 1, 0, ((hs.length : Nat) : Int) - 1, 0], InM (hs.length : Nat) j := fun j mj => by
      simp only [List.mem_cons, List.not_mem_nil, or_false] at mj
      rcases mj with rfl | rfl | rfl | rfl <;> exact ⟨by omega, by omega⟩
    have inm3 : ∀ j ∈ [((hs.length : Nat) : Int) - 1, 0, ((hs.length : Nat) : Int) - 1], InM (hs.length : Nat) j := fun j mj => inm j (by simp at mj ⊢; omega)
    refine hd_ext (K := K) (oA := some (.str "twice", .int (((hs.length : Nat) : Int) - 1))) (oB := some (.str "twice", .int (((hs.length : Nat) : Int) - 1))) hd10 (by omega) rfl
      (one_err (Cx := CT) hw_t fun H1 x1 E1 Q1 hE => ⟨_, rfl, _, rfl, _, _, rfl, rfl, _, rfl, _, _, rfl, rfl, (by show 4 ≤ sizeLine; omega), fun l nl => ⟨_, _, rfl, .inr ⟨a, ns, hs, rfl, (swA.extN (xAF.trans x1)).same (upd_new nl), okh, l50, n6,
        hw_dup (js := [((hs.length : Nat) : Int) - 1, 0, ((hs.length : Nat) : Int) - 1, 0]) (.inl upd_same) (by show 4 ≤ 1000; decide) inm dup4 (by simp) fun d H' t => hE d H' (t.from (upd_new nl))⟩⟩⟩)
      (one_err (Cx := CT) hw_t fun H1 x1 E1 Q1 hE => ⟨_, rfl, _, rfl, _, _, rfl, rfl, _, rfl, _, _, rfl, rfl, (by show 3 ≤ sizeLine; omega), fun l nl => ⟨_, _, rfl, .inr ⟨a, ns, hs, rfl, (swA.extN (xAF.trans x1)).same (upd_new nl), okh, l50, n6,
        hw_dup (js := [((hs.length : Nat) : Int) - 1, 0, ((hs.length : Nat) : Int) - 1]) (.inl upd_same) (by show 3 ≤ 1000; decide) inm3 dup3 (by simp) fun d H' t => ⟨hE d H' (t.from (upd_new nl)), NS.t⟩⟩⟩⟩) fun B11 hd11 => ?_
    have du11 := duF.extN hd11.ext
    refine last_any (R := fun v H' => ∃ D4, v = .ref D4 ∧ Same B11 H' ∧ B11 D4 = none ∧ Du H' D4 (os10 ++ (List.replicate 2 [some (V.str "twice", V.int (((hs.length : Nat) : Int) - 1))]).flatten))
      (fun Q2 kq => du_cat rfl du11 (by rw [rep_len, l29]; show 29 + 2 * 1 ≤ 1000; decide) (fun Q' kk => du_rep (j := 2) (fun Q'' k2 => tups_lst (tups_cons val_c (fun H' Q' q' => ⟨_, rfl, _, _, rfl, rfl, q'⟩) tups_nil) (by show 1 ≤ 100; decide) k2) (by decide) (by show 1 ≤ 100; decide) kk) fun D4 B12 s12 n12 d12 => kq _ _ ⟨D4, rfl, s12, n12, d12⟩) ?_
    rintro _ B12 ⟨D4, rfl, s12, n12, du12⟩
    refine kn _ _ ⟨D4, _, rfl, hd11.same s12, du12, (hd11.ne_new n12).symm, ?_, ?_, ?_⟩
    · intro o mo
      rcases List.mem_append.mp mo with mo | mo
      · exact pok10 o mo
      · have e : o = some (V.str "twice", V.int (((hs.length : Nat) : Int) - 1)) := by
          simp only [List.mem_cons, List.not_mem_nil, or_false] at mo
          rcases mo with rfl | rfl <;> rfl
        rw [e]
        have big : (2 : Nat) ^ 10 ≤ 2 ^ 200 := Nat.pow_le_pow_right (by decide) (by decide)
        exact ⟨(show (reprText _).length ≤ 1000 by decide +kernel), (show (((hs.length : Nat) : Int) - 1).natAbs < 2 ^ 200 by omega)⟩
    · rw [List.length_append, l29]; show 29 + 2 ≤ 40; decide
    · rw [List.length_append, l29]; omega
  rintro σ B11 ⟨D4, os7, rfl, hd11, du11, nD4, pok11, l40', l2⟩
  have hnmB : B11 nm' = some (.lst (ns.map V.str)) := (xAF.trans hd11.ext) _ _ hnmA (fun _ z => nomatch z)
  have a0 : atI (ns.map V.str) 0 = some (.str (ns.getD 0 "")) := atI_nat (j := 0) (by rw [List.getElem?_map, at0]; rfl)
  have a1 : atI (ns.map V.str) 1 = some (.str (ns.getD 1 "")) := atI_nat (j := 1) (by rw [List.getElem?_map, at1]; rfl)
  -- big
  show tSeq _ _ _ [some (V.ref p), some (.ref a), some (.ref nm'), some (.int (hs.length : Nat)), some (.ref L), some (.ref D4), z6, z7, some vb, none, some (.int m), some vo, some vs] B11
  refine seq_any (R := fun v H' => ∃ b, v = .ref b ∧ Same B11 H' ∧ SwAt C CH CS H' b ns (List.replicate 13 (oneH ns))) (fun Q2 kq => mk_copies (j := 13) rfl hnmB n2 n6 nd nm (by decide)
    (fun Q' kk => mk_oneH n2 nd nm (fun Q3 z => ⟨_, rfl, nm', _, _, _, rfl, rfl, SqL.of hnmB, a0, _, rfl, nm', _, _, _, rfl, rfl, SqL.of hnmB, a1, z⟩) kk) fun b H' s sw => kq _ _ ⟨b, rfl, s, sw⟩) ?_
  rintro _ B12 ⟨b, rfl, s12, sw12⟩
  have hd12 := hd11.same s12
  have du12 := du11.extN (Same.extN s12)
  obtain ⟨vsL12, hL12, _⟩ := hd12.l
  obtain ⟨hd12, xE⟩ := hd12.rebase
  replace du12 := du12.del hL12 nD4
  replace sw12 := sw12.nl (nl_del hL12)
  generalize delH B12 L = HG at hd12 xE du12 sw12
  have xAG : ExtN HA HG := xAF.trans xE
  show tSeq _ _ _ [some (V.ref p), some (.ref a), some (.ref nm'), some (.int (hs.length : Nat)), some (.ref L), some (.ref D4), z6, z7, some vb, some (.ref b), some (.int m), some vo, some vs] B12
  refine hd_app (K := K) (oA := some (.str "hands", .int 12)) hd12 (by omega) rfl
    (one_err (Cx := CM) hw_m fun H1 x1 E1 Q1 hE => ⟨_, rfl, _, rfl, .inr ⟨b, ns, _, rfl, sw12.extN x1, (by rw [List.length_replicate]; decide), fun _ d H' t => ⟨hE d H' t, NS.m⟩, fun l => absurd l (by rw [List.length_replicate]; decide)⟩⟩) fun B13 hd13 => ?_
  have du13 := du12.extN hd13.ext
  obtain ⟨vs13, hL13, al13⟩ := hd13.l
  have xAZ : ExtN HA B13 := xAG.trans hd13.ext
  have pokz : ∀ {Hz : Hp}, ExtN HA Hz → ∀ o ∈ os7 ++ [some (V.str "hands", V.int 12)], PairOk (ns.getD 0 "") Hz o := fun x o mo => by
    rcases List.mem_append.mp mo with mo | mo
    · exact (pok11 o mo).extN x
    · rw [List.mem_singleton.mp mo]
      exact ⟨(show (reprText _).length ≤ 1000 by decide +kernel), (show (12 : Int).natAbs < 2 ^ 200 by decide)⟩
  have lz : (os7 ++ [some (V.str "hands", V.int 12)]).length ≤ 100 := by rw [List.length_append]; show _ + 1 ≤ 100; omega
  have lz2 : 2 ≤ (os7 ++ [some (V.str "hands", V.int 12)]).length := by rw [List.length_append]; omega
  have room : L2H.RoomH 4 (A.deeper (envOfC "_law_refused_right" (defScope sRefused) s.heap.objs.size f (.ref cc))) := ⟨by have := hr.dp; omega, by have := hr.un; omega⟩
  obtain ⟨rp1, ln1⟩ := rp_list (X := (cxOf CX0 P w K mg base nRef4 "_law_refused_right" (defScope sRefused) f (.ref cc) A outer s H E).nox) hL13 al13 (pokz xAZ) lz2 lz
  refine ⟨_, rfl, .ref L, 4, _, rfl, rp1, room, ln1, fun B14 s14 => ?_⟩
  refine du_cat (os2 := [some (V.str "hands", V.int 12)]) rfl (du13.extN (Same.extN s14)) (by show _ + 1 ≤ 1000; omega) (fun Q' kk => tups_lst (tups_cons val_c val_c tups_nil) (by show 1 ≤ 100; decide) kk) fun Dz B15 s15 _ dz => ?_
  obtain ⟨vsz, eDz, alz⟩ := dz
  have xZ : ExtN HA B15 := (xAZ.trans (Same.extN s14)).trans (Same.extN s15)
  obtain ⟨rp2, ln2⟩ := rp_list (X := (cxOf CX0 P w K mg base nRef4 "_law_refused_right" (defScope sRefused) f (.ref cc) A outer s H E).nox) eDz alz (pokz xZ) lz2 lz
  refine ⟨.ref Dz, 4, _, rfl, rp2, room, ln2, fun B16 s16 => ⟨rfl, ?_⟩⟩
  have xF := xZ.trans (Same.extN s16)
  show Q (.bl (decide (V.str _ = V.str _))) B16
  rw [decide_eq_true rfl]
  refine q_ B16 (fun b' o nb e nt => xF _ _ (k04 _ _ nb e) nt) ?_
  obtain ⟨cs, tt, rr, z1, z2, z3⟩ := pn4
  exact ⟨cs, tt, rr, xF _ _ z1 (fun _ z => nomatch z), xF _ _ z2 (fun _ z => nomatch z), z3⟩
end
end K5

/-! k04: _law_twelve_right. -/
namespace K5
open PySem PySem.Spec PyProof.Rows L2 LamX K1 K18 K4 HT

def spTwelve : Sp := fun vs H Q _ => ∃ (nm : Addr) (ns : List Str), vs = [.ref nm] ∧ H nm = some (.lst (ns.map V.str)) ∧ 2 ≤ ns.length ∧ ns.length ≤ 6 ∧ ns.Nodup ∧ (∀ n ∈ ns, Nm n) ∧ ∀ H', Q (.bl true) H'
theorem t13 {α : Type} {xs : List α} {i : Nat} {x : α} (h : (xs.take 13)[i]? = some x) : xs[i]? = some x := by
  rw [List.getElem?_take] at h
  split at h
  · exact h
  · cases h
theorem listG_l {sp : SpG} {dvs : List V} {E : XK} {t : TA} {σ : L2.St} {H : Hp} {Q : VK} (h : t σ H fun vs H1 => sp (vs ++ dvs) H1 (fun out H2 => ∀ p, H2 p = none → Q (.ref p) (upd H2 p (.lst out))) E) : tListG (tCallG sp dvs E t) σ H Q := h
section
variable {P : Program} {w : World} {K : PySem.W.Frag} {mg : Str → Option Value} {base : Heap} {f C CH CS CW CM : Addr} {fd : FuncData}
abbrev nTwelve : List Str := ["_law_names_here", "_law_found", "_law_number"]
theorem scTwelve : FnScope nTwelve ["_law_names_here"] (defScope sTwelve) := ⟨rfl, rfl, rfl, by decide +kernel, rfl, by decide +kernel, by decide +kernel⟩
theorem ok_twelve (G : Glob mg) (M : MkS P w K mg base C CH CS CM) (MH : MkH P w K mg base C CH) (HD : HasG P w K mg base 4 "done_sets" ["swap"] (spDoneSets K C CH CS CW CM)) (F : DefAt K "_law_twelve_right" "_law_twelve_right" sTwelve f fd) :
    FnOk P w K mg base CX0 10 f fd ["_law_names_here"] spTwelve := by
  obtain ⟨fm, fdm, Mm, GM, bM⟩ := M.m
  obtain ⟨fh, fdh, Hm, GH, bH⟩ := MH.m
  obtain ⟨fD, fdD, mD, kD_, bD, GD⟩ := HD.h
  refine okN F scTwelve (fun vs H Q E ⟨nm, ns, e, _⟩ => by rw [e]; rfl) (fun cdv A outer s H vs Q E hr ⟨nm, ns, e, hnm, n2, n6, nd, nmo, q⟩ => ?_)
  subst e
  have hu64 : (A.deeper (envOfC "_law_twelve_right" (defScope sTwelve) s.heap.objs.size f cdv)).units + 64 < cLine := by have := hr.un; omega
  refine ⟨_, pss_cons (ps_set (i := 1) scTwelve.nd rfl (Or.inl rfl) (pe_listG (k := 4) (E := E0) (pgen_call (E := E0) GD (hr.mono (by decide)) rfl mD kD_ bD .nil (pa_cons
        (pe_make (E := E0) Mm GM hr rfl M.g bM .nil passL (pa_cons (pv 0) (pa_cons (pe_op op_rep (pe_lst (pa_cons (pe_make Hm GH (hr.mono (by decide)) rfl MH.g bH .nil pass0
          (pa_cons (pe_ix ix_list (pv 0) pe_int (fun _ _ => rfl)) (pa_cons (pe_ix ix_list (pv 0) pe_int (fun _ _ => rfl)) (pa_cons pe_int (pa_cons pe_int pa_nil))))) pa_nil)) pe_int) pa_nil))) pa_nil)) passL noStop0 (hr.mono (by decide)) (by rfl) G.lst (by decide +kernel)))
    (pss_one (ps_ret (pe_and (pe_cmpR op_eq (pe_callB (r := rLenA K) (call_lenA rfl) (by rfl) G.len PySem.boot_len (pa_cons (pv 1) pa_nil)) pe_int (nomark _))
      (pe_and (pe_cmpR (op_eqD hu64) (pe_slice sl_list (pv 1) po_none (po_some pe_int)) (pe_op op_cat (pe_lst (pa_cons (pe_tup pa_nil) pa_nil))
          (pe_lc (own := [("_law_number", 2)]) (g := gName 2) (tt := tYes) rfl scTwelve.nd (pi_range1 (by rfl) G.range (pa_cons pe_int pa_nil)) (blkOk_by (N := nTwelve) (sc := defScope sTwelve) (by decide +kernel))
            (fun _ _ _ _ _ => pg_name (i := 2) scTwelve.nd rfl (Or.inl rfl)) (fun _ _ _ _ _ => pts_nil) (fun _ _ _ _ _ => pe_tup (pa_cons (pv 2) pa_nil)))) (nomark _))
        (pe_one (pe_cmpR (op_eqD hu64) (pe_ix ix_list (pv 1) (pe_un un_neg pe_int) (fun _ _ => rfl)) (pe_tupRg rfl (by rfl) G.tup (prg_1 (by rfl) G.range pe_int)) (nomark _))))))), ?_⟩
  have sz : sizeLine = 16777216 := sizeLine_eq
  have at0 : ns[0]? = some (ns.getD 0 "") := getD_at (by omega)
  have at1 : ns[1]? = some (ns.getD 1 "") := getD_at (by omega)
  have a0 : atI (ns.map V.str) 0 = some (.str (ns.getD 0 "")) := atI_nat (j := 0) (by rw [List.getElem?_map, at0]; rfl)
  have a1 : atI (ns.map V.str) 1 = some (.str (ns.getD 1 "")) := atI_nat (j := 1) (by rw [List.getElem?_map, at1]; rfl)
  refine seq_any (R := fun v H' => ∃ g, v = .ref g ∧ SetL H' g (setsN 12)) (fun Q2 kq => ?_) ?_
  · refine listG_l (cons_l ?_)
    refine mk_copies (C := C) (CH := CH) (CS := CS) (CM := CM) (i := 0) (j := 12) rfl hnm n2 n6 nd nmo (by decide)
      (fun Q' kk => mk_oneH n2 nd nmo (fun Q3 z => ⟨_, rfl, nm, _, _, _, rfl, rfl, SqL.of hnm, a0, _, rfl, nm, _, _, _, rfl, rfl, SqL.of hnm, a1, z⟩) kk) fun b H1 s1 sw => ?_
    refine ⟨.ref b, rfl, .inr ⟨b, ns, _, rfl, sw, (by rw [List.length_replicate]; decide), fun l => absurd l (by rw [List.length_replicate]; decide), fun _ as H2 s2 sl g ng => ?_⟩⟩
    rw [List.length_replicate] at sl
    have s3 := upd_new (o := .lst (as.map V.ref)) ng
    exact kq _ _ ⟨g, rfl, as, upd_same, sl.same s3⟩
  rintro _ H1 ⟨g, rfl, as, hg, sl⟩
  have la := sl.1
  rw [twelve_len] at la
  refine ⟨_, rfl, g, _, rfl, .inl (SqL.of hg), rfl, true, ?_, iteT ?_⟩
  · exact congrArg V.bl (by rw [List.length_map, la]; decide)
  refine ⟨_, rfl, 13, rfl, g, _, rfl, SqL.of hg, fun g13 n13 => ?_⟩
  have cut : cutV (as.map V.ref) none (some 13) = (as.take 13).map V.ref := by
    unfold cutV
    rw [sIx_none, show (some (13 : Int)) = some ((13 : Nat) : Int) from rfl, sIx_nat, List.drop_zero, Nat.sub_zero, List.length_map, la, List.map_take]
    rfl
  rw [cut]
  have s2 := upd_new (o := .lst ((as.take 13).map V.ref)) n13
  have h13 : upd H1 g13 (.lst ((as.take 13).map V.ref)) g13 = some (.lst ((as.take 13).map V.ref)) := upd_same
  generalize upd H1 g13 (.lst ((as.take 13).map V.ref)) = H2 at s2 h13 ⊢
  have sl2 := sl.same s2
  have first : Sets H2 (as.take 13) ([] :: (List.range 12).map fun n => [n]) := by
    rw [← twelve_first]
    exact ⟨by rw [List.length_take, List.length_take, sl.1], fun i x y ex ey => sl2.2 i x y (t13 ex) (t13 ey)⟩
  refine ⟨(by show 0 ≤ sizeLine; omega), fun t0 nt0 => ⟨(by show 1 ≤ sizeLine; omega), fun l0 nl0 => ?_⟩⟩
  have s3 := upd_new (o := .tup []) nt0
  have ht0 : upd H2 t0 (.tup []) t0 = some (.tup (kV [])) := upd_same
  generalize upd H2 t0 (.tup []) = H3 at s3 ht0 nl0 ⊢
  have s4 := upd_new (o := .lst [V.ref t0]) nl0
  have hl0 : upd H3 l0 (.lst [V.ref t0]) l0 = some (.lst [V.ref t0]) := upd_same
  generalize upd H3 l0 (.lst [V.ref t0]) = H4 at s4 hl0 ⊢
  have s24 := s3.trans s4
  refine ⟨_, rfl, by decide, by decide, fun D hD => ?_⟩
  refine lc_range (lo := 0) (n := ((12 : Int)).toNat) (fun i H' => ∃ bs, Same H4 H' ∧ H' D = some (.lst (bs.map V.ref)) ∧ Sets H' bs ((List.range i).map fun n => [n])) ⟨[], upd_new hD, upd_same, All2.nil⟩ ?_ ?_
  · rintro i H5 hi ⟨bs, s5, hd, al⟩
    have l12 : i < 12 := hi
    have z0 : (0 : Int) + (i : Nat) = (i : Nat) := by omega
    have lb := al.1
    rw [List.length_map, List.length_range] at lb
    refine ⟨rfl, yes_of ⟨_, rfl, (by show 1 ≤ sizeLine; omega), fun b nb => ?_⟩⟩
    have s6 := upd_new (o := .tup [V.int ((0 : Int) + (i : Nat))]) nb
    have hb : TupN (upd H5 b (.tup [V.int ((0 : Int) + (i : Nat))])) b [i] := by show upd H5 b _ b = _; rw [upd_same, z0]; rfl
    generalize upd H5 b (.tup [V.int ((0 : Int) + (i : Nat))]) = H6 at s6 hb ⊢
    refine ⟨_, s6 _ _ hd, by rw [List.length_map]; omega, bs ++ [b], same_upd hD (s5.trans s6), by rw [upd_same, List.map_append]; rfl, ?_⟩
    rw [List.range_succ, List.map_append]
    exact Sets.upd (s6 _ _ hd) ((al.same s6).snoc hb)
  rintro H5 ⟨bs, s5, hd, al⟩
  refine ⟨l0, D, [V.ref t0], bs.map V.ref, rfl, rfl, s5 _ _ hl0, hd, ?_, fun l2 n2' => ?_⟩
  · have := al.1
    rw [List.length_map, List.length_range] at this
    have e : (12 : Int).toNat = 12 := rfl
    rw [List.length_map, this, e]
    show 1 + 12 ≤ sizeLine
    omega
  have s6 := upd_new (o := .lst ([V.ref t0] ++ bs.map V.ref)) n2'
  have h6 : upd H5 l2 (.lst ([V.ref t0] ++ bs.map V.ref)) l2 = some (.lst ((t0 :: bs).map V.ref)) := by rw [upd_same]; rfl
  generalize upd H5 l2 (.lst ([V.ref t0] ++ bs.map V.ref)) = H6 at s6 h6 ⊢
  have s46 := s5.trans s6
  have s26 := s24.trans s46
  have second : Sets H6 (t0 :: bs) ([] :: (List.range 12).map fun n => [n]) := (All2.snoc (xs := []) (ys := []) (R := TupN H6) All2.nil (show TupN H6 t0 [] from (s4.trans s46) _ _ ht0)).app (al.same s6)
  refine ⟨_, _, dp_sets ⟨as.take 13, s26 _ _ h13, first.same s26⟩, dp_sets ⟨t0 :: bs, h6, second⟩, sets_sh _, sets_sh _, true, ?_, iteT ?_⟩
  · exact congrArg V.bl (by rw [eqv_sets, decide_eq_true rfl])
  obtain ⟨z, ez, hz⟩ := sl.getR twelve_last
  have s16 := s2.trans s26
  have last : atI (as.map V.ref) (-1) = some (.ref z) := by
    have lm : (as.map V.ref).length = 4096 := by rw [List.length_map, la]
    unfold atI ixN
    rw [lm, if_neg (by decide), if_pos (by decide)]
    show (as.map V.ref)[4095]? = _
    rw [List.getElem?_map, ez]; rfl
  refine ⟨_, rfl, 1, rfl, g, _, _, _, rfl, rfl, SqL.of (s16 _ _ hg), last, 12, rfl, RgOk.of_le (by decide) (by decide) (by decide) (by decide), fun t9 n9 => ?_⟩
  have s7 := upd_new (o := .tup (rgV 0 12)) n9
  refine ⟨setD (List.range 12), setD (List.range 12), dp_set (s7 _ _ (s16 _ _ hz)), dp_set (d := List.range 12) (by show upd H6 t9 _ t9 = _; rw [upd_same, show rgV 0 12 = kV (List.range 12) from rg0 12]), (sh_k _).1, (sh_k _).1, ?_⟩
  show Q (.bl (PyData.eqv (.tuple (kD (List.range 12))) (.tuple (kD (List.range 12))))) _
  rw [eqv_k, decide_eq_true rfl]
  exact q _
end
end K5

/-! k04: for law: rows, lines, kinds as data. -/
namespace K5
open PySem PySem.Spec PyProof.Rows L2 LamX K1 K18 K4

def rowD (r : Row) : PyData := .tuple [.int r.g, .int r.t, .int r.c, .int r.d]
theorem rows_sh (rs : List Row) : SeqAt.shaped (.list (rs.map rowD)) = true := (shaped_tup (f := rowD) (fun r => by simp [rowD, PyData.canLay0, PyData.canLayAll0]) (fun r => by simp [rowD, PyData.depth, PyData.depthAll]) rs).2
theorem rows_dp {K : PySem.W.Frag} {H : Hp} : ∀ {as : List Addr} {rs : List Row}, All2 (RwAt H) as rs → DpAll K H (as.map V.ref) (rs.map rowD)
  | [], [], _ => .nil
  | a :: as, r :: rs, al => .cons (.tup (SqT.of (al.2 0 a r rfl rfl)) (.cons (.int _) (.cons (.int _) (.cons (.int _) (.cons (.int _) .nil))))) (rows_dp ⟨by simpa using al.1, fun i x y ex ey => al.2 (i + 1) x y (by simpa using ex) (by simpa using ey)⟩)
  | [], r :: rs, al => by have := al.1; simp at this
  | a :: as, [], al => by have := al.1; simp at this
theorem dp_rows {K : PySem.W.Frag} {H : Hp} {l : Addr} {rs : List Row} (h : RwL H l rs) : Dp K H (.ref l) (.list (rs.map rowD)) := let ⟨as, a, b⟩ := h; .lst (SqL.of a) (rows_dp b)
theorem rows_emp (rs : List Row) : PyData.eqv (.list (rs.map rowD)) (.list []) = decide (rs = []) := by
  cases rs with
  | nil => rfl
  | cons r rs => simp [PyData.eqv, PyData.eqvAll]
theorem dp_nil {K : PySem.W.Frag} {H : Hp} {l : Addr} (h : H l = some (.lst [])) : Dp K H (.ref l) (.list []) := .lst (SqL.of h) .nil
theorem sh_nil : SeqAt.shaped (.list []) = true := by rfl
/-! lines -/
def zD (zs : List Int) : List PyData := zs.map PyData.int
theorem dps_z {K : PySem.W.Frag} {H : Hp} : ∀ zs : List Int, DpAll K H (zs.map V.int) (zD zs)
  | [] => .nil
  | z :: zs => .cons (.int z) (dps_z zs)
theorem sh_z (zs : List Int) : SeqAt.shaped (.list (zD zs)) = true := (shaped_tup (f := PyData.int) (fun n => by simp [PyData.canLay0]) (fun n => by simp [PyData.depth]) zs).2
theorem eqv_i (a b : Int) : PyData.eqv (.int a) (.int b) = decide (a = b) := by
  simp only [PyData.eqv]
  by_cases h : a = b
  · subst h; simp
  · simp [h]
theorem eqv_z (a b : List Int) : PyData.eqv (.list (zD a)) (.list (zD b)) = decide (a = b) := by
  rw [PyData.eqv]
  exact eqvAll_map (f := PyData.int) eqv_i a b
theorem dp_z {K : PySem.W.Frag} {H : Hp} {l : Addr} {zs : List Int} (h : H l = some (.lst (zs.map V.int))) : Dp K H (.ref l) (.list (zD zs)) := .lst (SqL.of h) (dps_z zs)
/-! kinds -/
theorem all_is0 (zs : List Int) : zs.all is0 = decide (zs = List.replicate zs.length 0) := by
  induction zs with
  | nil => rfl
  | cons z zs ih =>
    rw [List.all_cons, ih, List.length_cons, List.replicate_succ, Bool.eq_iff_iff, Bool.and_eq_true, decide_eq_true_iff, decide_eq_true_iff, List.cons.injEq]
    unfold is0
    rw [decide_eq_true_iff]
theorem all_ge0 {zs : List Int} {m : Int} (mem : m ∈ zs) (le : ∀ y ∈ zs, m ≤ y) : zs.all ge0 = decide (m ≥ 0) := by
  rw [Bool.eq_iff_iff, List.all_eq_true, decide_eq_true_iff]
  unfold ge0
  constructor
  · intro h
    exact of_decide_eq_true (h m mem)
  · intro h y my
    have := le y my
    exact decide_eq_true (by omega)
theorem all_priced (ns : List Str) (rs : List Row) : ((rs.map (mkH ns)).all fun h => decide (h.c = h.d)) = decide ((rs.filter fun r => !decide (r.c = r.d)) = []) := by
  rw [Bool.eq_iff_iff, List.all_eq_true, decide_eq_true_iff, List.filter_eq_nil_iff]
  constructor
  · intro h r mr
    have := h _ (List.mem_map_of_mem mr)
    show ¬ (!decide (r.c = r.d)) = true
    rw [show decide (r.c = r.d) = true from this]
    decide
  · intro h x mx
    obtain ⟨r, mr, rfl⟩ := List.mem_map.mp mx
    have := h r mr
    show decide (r.c = r.d) = true
    cases e : decide (r.c = r.d) with
    | true => rfl
    | false => rw [e] at this; exact absurd rfl this
def kinD (a b c : Bool) : PyData := .tuple [.bool a, .bool b, .bool c]
theorem kin_dp {K : PySem.W.Frag} {H : Hp} {t : Addr} {a b c : Bool} (h : H t = some (.tup [.bl a, .bl b, .bl c])) : Dp K H (.ref t) (kinD a b c) := .tup (SqT.of h) (.cons (.bl _) (.cons (.bl _) (.cons (.bl _) .nil)))
theorem kin_sh (a b c : Bool) : SeqAt.shaped (kinD a b c) = true := by cases a <;> cases b <;> cases c <;> rfl
theorem kin_eqv (a b c : Bool) : PyData.eqv (kinD a b c) (kinD a b c) = true := by cases a <;> cases b <;> cases c <;> rfl
theorem tabs_nl {T : List (Addr × Str)} {H H' : Hp} (x : NL H H') (t : Tabs T H) : Tabs T H' := fun q hq => by
  obtain ⟨ps, h1, h2, h3⟩ := t q hq
  refine ⟨ps, x _ _ h1 (fun _ z => nomatch z), h2, fun pos cv hc => ?_⟩
  obtain ⟨c', e1, e2⟩ := h3 pos cv hc
  exact ⟨c', e1, x _ _ e2 (fun _ z => nomatch z)⟩
/-- a row whose sides are one -/
def Row.mix (r : Row) : Row := ⟨r.t, r.g, r.c, r.c⟩
def Row.flat (r : Row) : Row := ⟨r.g, r.t, r.c, r.c⟩
theorem RwOk.mix {m : Nat} {r : Row} (h : RwOk m r) : RwOk m r.mix := ⟨h.t, h.g, Ne.symm h.ne, h.c0, h.c0, h.cs, h.cs⟩
theorem RwOk.flat {m : Nat} {r : Row} (h : RwOk m r) : RwOk m r.flat := ⟨h.g, h.t, h.ne, h.c0, h.c0, h.cs, h.cs⟩
theorem cut_n {xs : List V} (n : Nat) : cutV xs none (some (n : Int)) = xs.take n := by
  unfold cutV
  rw [HT.sIx_none, HT.sIx_nat, List.drop_zero, Nat.sub_zero]
  rcases Nat.le_total n xs.length with h | h
  · rw [Nat.min_eq_left h]
  · rw [Nat.min_eq_right h, List.take_of_length_le (Nat.le_refl _), List.take_of_length_le h]
theorem all2_take {α β : Type} {R : α → β → Prop} {xs : List α} {ys : List β} (h : All2 R xs ys) (n : Nat) : All2 R (xs.take n) (ys.take n) := by
  refine ⟨by rw [List.length_take, List.length_take, h.1], fun i x y ex ey => ?_⟩
  rw [List.getElem?_take] at ex ey
  split at ex
  · rw [if_pos (by assumption)] at ey
    exact h.2 i x y ex ey
  · cases ex
end K5

/-! k04: law. -/
namespace K5
open PySem PySem.Spec PyProof.Rows L2 LamX K1 K18 K4

abbrev nLaw4 : List Str := ["_law_script", "_law_pen_here", "_law_names_here", "_law_rows_here", "_law_handed", "_law_told", "_law_swap", "_law_line_here", "_law_sets", "_law_kinds", "_law_done", "_law_giver", "_law_taker", "_law_cost", "_law_gain", "_law_row", "_law_name", "_law_sixths"]
def spLaw (K : PySem.W.Frag) (T : List (Addr × Str)) : Sp := fun vs H Q _ => ∃ (a : Addr) (ns : List Int), vs = [.ref a] ∧ SqL K H a (ns.map V.int) ∧ ns.length ≤ 63 ∧ Tabs T H ∧ ∀ H', Q (.bl true) H'
abbrev HasRows (P : Program) (w : World) (K : PySem.W.Frag) (mg : Str → Option Value) (base : Heap) : Prop := Has P w K mg base CX0 3 "_law_rows" ["_law_pen_here", "_law_strangers", "_law_many"] spRows
abbrev HasLNames (P : Program) (w : World) (K : PySem.W.Frag) (mg : Str → Option Value) (base : Heap) : Prop := Has P w K mg base CX0 3 "_law_names" ["_law_pen_here", "_law_many"] spLNames
abbrev HasHandsL (P : Program) (w : World) (K : PySem.W.Frag) (mg : Str → Option Value) (base : Heap) (C CH : Addr) : Prop := Has P w K mg base CX0 9 "_law_hands" ["_law_pen_here", "_law_names_here", "_law_rows_here"] (spHandsL C CH)
/-- a property of the swap -/
def PropS (P : Program) (w : World) (K : PySem.W.Frag) (mg : Str → Option Value) (base : Heap) (CS : Addr) (x : Str) (sp : Sp) : Prop := ∃ p f fd, PropOf K CS x p f ∧ Binds K fd ["self"] [] ∧ FnOk P w K mg base CX0 3 f fd ["self"] sp
theorem scLaw4 : FnScope nLaw4 ["_law_script"] (defScope sLaw) := ⟨rfl, rfl, rfl, by decide +kernel, rfl, by decide +kernel, by decide +kernel⟩
section
variable {P : Program} {w : World} {K : PySem.W.Frag} {mg : Str → Option Value} {base : Heap} {f C CH CS CW CD CI CT CM CN : Addr} {fd : FuncData}
structure LawH (P : Program) (w : World) (K : PySem.W.Frag) (mg : Str → Option Value) (base : Heap) (T : List (Addr × Str)) (C CH CS CW CM CN : Addr) : Prop where
  R : SwapF K CS
  M : MkS P w K mg base C CH CS CM
  pen : Has P w K mg base CX0 1 "_law_pen" ["_law_script"] (spPen K)
  draw : HasDraw P w K mg base
  pick : HasPick P w K mg base
  names : HasLNames P w K mg base
  rows : HasRows P w K mg base
  hands : HasHandsL P w K mg base C CH
  line : HasLine P w K mg base
  sets : Has P w K mg base CX0 1 "_law_all_sets" ["_law_many"] spAllSets
  isl : HasIsLine P w K mg base C
  is : HasIs P w K mg base C
  dsets : HasG P w K mg base 4 "done_sets" ["swap"] (spDoneSets K C CH CS CW CM)
  p1 : PropS P w K mg base CS "is_even" (spAllNets C CH CS is0)
  p2 : PropS P w K mg base CS "is_gainful" (spAllNets C CH CS ge0)
  p3 : PropS P w K mg base CS "is_even_priced" (spPriced C CH CS)
  net : NetM P w K mg base C CH CS CN
  setr : Has P w K mg base CX0 10 "_law_set_right" ["_law_pen_here", "_law_swap", "_law_names_here", "_law_rows_here", "_law_done"] (spSetR C CH CS)
  alr : Has P w K mg base CX0 12 "_law_along_right" ["_law_pen_here", "_law_swap", "_law_names_here", "_law_rows_here"] (spAlR C CH CS)
  ref : HasQ P w K mg base 15 "_law_refused_right" ["_law_pen_here", "_law_swap", "_law_names_here", "_law_many"] (spRef4 T C CH CS)
  twelve : Has P w K mg base CX0 10 "_law_twelve_right" ["_law_names_here"] spTwelve
theorem ok_law4 {T : List (Addr × Str)} (G : Glob mg) (L : LawH P w K mg base T C CH CS CW CM CN) (F : DefAt K "law" "law" sLaw f fd) : FnG P w K mg base CX0 16 f fd ["_law_script"] (spLaw K T) := by
  have R := L.R
  have M := L.M
  obtain ⟨f1, fd1, m1, k1, b1, G1⟩ := L.pen.h
  obtain ⟨fT, fdT, mT, kT, bT, GT⟩ := L.draw.h
  obtain ⟨fP, fdP, mP, kP, bP, GP⟩ := L.pick.h
  obtain ⟨fN, fdN, mN, kN, bN, GN⟩ := L.names.h
  obtain ⟨fR, fdR, mR, kR, bR, GR⟩ := L.rows.h
  obtain ⟨fH, fdH, mH, kH, bH, GH⟩ := L.hands.h
  obtain ⟨fL, fdL, mL, kL, bL, GL⟩ := L.line.h
  obtain ⟨fA, fdA, mA, kA, bA, GA⟩ := L.sets.h
  obtain ⟨fI, fdI, mI, kI, bI, GI⟩ := L.isl.h
  obtain ⟨fQ, fdQ, mQ, kQ, bQ, GQ⟩ := L.is.h
  obtain ⟨fD, fdD, mD, kD, bD, GD⟩ := L.dsets.h
  obtain ⟨pp1, fp1, fdp1, Pp1, bp1, Gp1⟩ := L.p1
  obtain ⟨pp2, fp2, fdp2, Pp2, bp2, Gp2⟩ := L.p2
  obtain ⟨pp3, fp3, fdp3, Pp3, bp3, Gp3⟩ := L.p3
  obtain ⟨fNt, fdNt, Mn, bNt, GNt⟩ := L.net.h
  obtain ⟨fS, fdS, mS, kS, bS, GS⟩ := L.setr.h
  obtain ⟨fY, fdY, mY, kY, bY, GY⟩ := L.alr.h
  obtain ⟨fX, fdX, mX, kX, bX, GX⟩ := L.ref.h
  obtain ⟨fW, fdW, mW, kW, bW, GW⟩ := L.twelve.h
  obtain ⟨fm, fdm, Mm, GM, bM⟩ := L.M.m
  refine okG F scLaw4 (fun vs H Q E ⟨a, ns, e, _⟩ => by rw [e]; rfl) (fun cdv A outer s H vs Q E gd hr ⟨a, is, e, sq, hl, tb, q⟩ => ?_)
  subst e
  have gd2 : (A.deeper (envOfC "law" (defScope sLaw) s.heap.objs.size f cdv)).guards = some [] := by show A.guards = _; exact gd
  have hu64 : (A.deeper (envOfC "law" (defScope sLaw) s.heap.objs.size f cdv)).units + 64 < cLine := by have := hr.un; omega
  have r1 := hr.mono (show 1 ≤ 15 by decide)
  have r2 := hr.mono (show 2 ≤ 15 by decide)
  have r3 := hr.mono (show 3 ≤ 15 by decide)
  have r4 := hr.mono (show 4 ≤ 15 by decide)
  have r7 := hr.mono (show 7 ≤ 15 by decide)
  have r9 := hr.mono (show 9 ≤ 15 by decide)
  have r10 := hr.mono (show 10 ≤ 15 by decide)
  have r12 := hr.mono (show 12 ≤ 15 by decide)
  have r15 := hr
  refine ⟨_, pss_cons (ps_set (i := 1) scLaw4.nd rfl (Or.inl rfl) (pe_call G1 r1 rfl m1 k1 b1 .nil pass0 (pa_cons (pv 0) pa_nil)))
    (pss_cons (ps_set (i := 2) scLaw4.nd rfl (Or.inl rfl) (pe_call GN r3 rfl mN kN bN .nil pass0 (pa_cons (pv 1) (pa_cons (pe_call GP r2 rfl mP kP bP .nil pass0 (pa_cons (pv 1) (pa_cons (pe_lst (pa_cons pe_int (pa_cons pe_int (pa_cons pe_int (pa_cons pe_int (pa_cons pe_int (pa_cons pe_int (pa_cons pe_int pa_nil)))))))) pa_nil))) pa_nil))))
    (pss_cons (ps_set (i := 3) scLaw4.nd rfl (Or.inl rfl) (pe_call GR r3 rfl mR kR bR .nil pass0 (pa_cons (pv 1) (pa_cons (pe_callB (r := rLenA K) (call_lenA rfl) (by rfl) G.len PySem.boot_len (pa_cons (pv 2) pa_nil)) (pa_cons (pe_call GT r1 rfl mT kT bT .nil pass0 (pa_cons (pv 1) (pa_cons pe_int pa_nil))) pa_nil)))))
    (pss_cons (ps_if (PW.pt (pw_and (pt_cmpR (op_neD hu64) (pv 3) (pe_lst pa_nil) (nomark _)) (pw_and1 (pt_cmpR op_eq (pe_call GT r1 rfl mT kT bT .nil pass0 (pa_cons (pv 1) (pa_cons pe_int pa_nil))) pe_int (nomark _))))) (pss_cons (ps_set (i := 3) scLaw4.nd rfl (Or.inl rfl) (pe_slice sl_list (pe_op op_cat (pe_slice sl_list (pv 3) po_none (po_some pe_int)) (pe_lc (own := [("_law_giver", 11), ("_law_taker", 12), ("_law_cost", 13), ("_law_gain", 14)]) (g := (gTup K 4 (gCons (gName 11) (gCons (gName 12) (gCons (gName 13) (gCons (gName 14) gNil)))))) (tt := tYes) rfl scLaw4.nd (pi_list (pe_slice sl_list (pv 3) po_none (po_some pe_int))) (blkOk_by (N := nLaw4) (sc := defScope sLaw) (by decide +kernel))
        (fun _ _ _ _ _ => (pg_tup (by rfl) (pgs_cons (pg_name (i := 11) scLaw4.nd rfl (Or.inl rfl)) (pgs_cons (pg_name (i := 12) scLaw4.nd rfl (Or.inl rfl)) (pgs_cons (pg_name (i := 13) scLaw4.nd rfl (Or.inl rfl)) (pgs_cons (pg_name (i := 14) scLaw4.nd rfl (Or.inl rfl)) pgs_nil)))))) (fun _ _ _ _ _ => pts_nil) (fun _ _ _ _ _ => (pe_tup (pa_cons (pv 12) (pa_cons (pv 11) (pa_cons (pv 13) (pa_cons (pv 13) pa_nil)))))))) po_none (po_some pe_int)))
      (pss_one (ps_setLc (i := 3) (own := [("_law_giver", 11), ("_law_taker", 12), ("_law_cost", 13), ("_law_gain", 14)]) (g := (gTup K 4 (gCons (gName 11) (gCons (gName 12) (gCons (gName 13) (gCons (gName 14) gNil)))))) (tt := tYes) rfl scLaw4.nd rfl rfl (by rfl) (pi_list (pv 3)) (blkOk_by (N := nLaw4) (sc := defScope sLaw) (by decide +kernel))
        (fun _ _ _ _ _ => (pg_tup (by rfl) (pgs_cons (pg_name (i := 11) scLaw4.nd rfl (Or.inl rfl)) (pgs_cons (pg_name (i := 12) scLaw4.nd rfl (Or.inl rfl)) (pgs_cons (pg_name (i := 13) scLaw4.nd rfl (Or.inl rfl)) (pgs_cons (pg_name (i := 14) scLaw4.nd rfl (Or.inl rfl)) pgs_nil)))))) (fun _ _ _ _ _ => pts_nil) (fun _ _ _ _ _ => (pe_tup (pa_cons (pv 11) (pa_cons (pv 12) (pa_cons (pv 13) (pa_cons (pv 13) pa_nil))))))))) pss_nil)
    (pss_cons (ps_par (i := 4) (j := 5) (by rfl) scLaw4.nd rfl rfl (by decide) rfl rfl (pa_cons (pe_call GH r9 rfl mH kH bH .nil pass0 (pa_cons (pv 1) (pa_cons (pv 2) (pa_cons (pv 3) pa_nil)))) (pa_cons (pe_callTy call_list_of (by rfl) G.lst (by decide +kernel) (pa_cons (pv 2) pa_nil)) pa_nil)) (by rfl))
    (pss_cons (ps_set (i := 6) scLaw4.nd rfl (Or.inr rfl) (pe_make (E := E0) Mm GM r9 rfl M.g bM .nil passL (pa_cons (pv 5) (pa_cons (pv 4) pa_nil))))
    (pss_cons (ps_expr (pe_bm0 PySem.F.plainAttrs_list PySem.F.slot_list_clear PySem.F.type_list_clear mt_clear (pv 4)))
    (pss_cons (ps_expr (pe_bm PySem.F.plainAttrs_list PySem.F.slot_list_append PySem.F.type_list_append mt_append (pv 5) (pa_cons pe_str pa_nil)))
    (pss_cons (ps_par (i := 7) (j := 8) (by rfl) scLaw4.nd rfl rfl (by decide) rfl rfl (pa_cons (pe_call GL r1 rfl mL kL bL .nil pass0 (pa_cons (pe_callB (r := rLenA K) (call_lenA rfl) (by rfl) G.len PySem.boot_len (pa_cons (pv 2) pa_nil)) (pa_cons (pv 3) pa_nil))) (pa_cons (pe_call GA r1 rfl mA kA bA .nil pass0 (pa_cons (pe_callB (r := rLenA K) (call_lenA rfl) (by rfl) G.len PySem.boot_len (pa_cons (pv 3) pa_nil)) pa_nil)) pa_nil)) (by rfl))
    (pss_cons (ps_if (PW.pt (pw_or (pt_not (pt_val (pe_call GI r2 rfl mI kI bI .nil pass0 (pa_cons (pe_fld (pv 6) rfl) (pa_cons (pv 7) pa_nil))))) (pw_or1 (pt_cmpR (op_neD hu64) (pe_listG (k := 4) (E := E0) (pgen_call (E := E0) GD r4 rfl mD kD bD .nil (pa_cons (pv 6) pa_nil)) passL noStop0 r7 (by rfl) G.lst (by decide +kernel)) (pv 8) (nomark _))))) pss_dead pss_nil)
    (pss_cons (ps_set (i := 9) scLaw4.nd rfl (Or.inl rfl) (pe_tup (pa_cons (pe_cmpR (op_eqD hu64) (pv 7) (pe_op op_rep (pe_lst (pa_cons pe_int pa_nil)) (pe_callB (r := rLenA K) (call_lenA rfl) (by rfl) G.len PySem.boot_len (pa_cons (pv 7) pa_nil))) (nomark _)) (pa_cons (pe_cmpR op_ge (pe_callB (cr_min rfl) (by rfl) G.min (by decide +kernel) (pa_cons (pv 7) pa_nil)) pe_int (nomark _)) (pa_cons (pe_cmpR (op_eqD hu64) (pe_lc (own := [("_law_row", 15)]) (g := gName 15) rfl scLaw4.nd (pi_list (pv 3)) (blkOk_by (N := nLaw4) (sc := defScope sLaw) (by decide +kernel)) (fun _ _ _ _ _ => (pg_name (i := 15) scLaw4.nd rfl (Or.inl rfl))) (fun _ _ _ _ _ => pts_one (pt_cmpR op_ne (pe_ix (r := rIxT K) ix_tup (pv 15) pe_int (fun _ _ => rfl)) (pe_ix (r := rIxT K) ix_tup (pv 15) pe_int (fun _ _ => rfl)) (nomark _))) (fun _ _ _ _ _ => pv 15)) (pe_lst pa_nil) (nomark _)) pa_nil)))))
    (pss_cons (ps_if (pt_cmpR (op_neD hu64) (pe_tup (pa_cons (pe_prop (E := E0) (pv 6) R.cl Pp1 Gp1 r4 bp1 .nil pass0 rfl) (pa_cons (pe_prop (E := E0) (pv 6) R.cl Pp2 Gp2 r4 bp2 .nil pass0 rfl) (pa_cons (pe_prop (E := E0) (pv 6) R.cl Pp3 Gp3 r4 bp3 .nil pass0 rfl) pa_nil)))) (pv 9) (nomark _)) pss_dead pss_nil)
    (pss_cons (ps_if (pt_not (pt_val (pe_callB (cr_all rfl) (by rfl) G.all (by decide +kernel) (pa_cons (pe_lc (own := [("_law_name", 16), ("_law_sixths", 17)]) (g := (gTup K 2 (gCons (gName 16) (gCons (gName 17) gNil)))) (tt := tYes) rfl scLaw4.nd (pi_zip (by rfl) G.zip (pa_cons (pv 2) (pa_cons (pv 7) pa_nil))) (blkOk_by (N := nLaw4) (sc := defScope sLaw) (by decide +kernel))
        (fun _ _ _ _ _ => pg_tup (by rfl) (pgs_cons (pg_name (i := 16) scLaw4.nd rfl (Or.inl rfl)) (pgs_cons (pg_name (i := 17) scLaw4.nd rfl (Or.inl rfl)) pgs_nil))) (fun _ _ _ _ _ => pts_nil) (fun _ _ _ _ _ => pe_call GQ r1 rfl mQ kQ bQ .nil pass0 (pa_cons (pe_meth (E := E0) (pv 6) R.cl Mn GNt r4 bNt .nil passL (pa_cons (pv 16) pa_nil)) (pa_cons (pv 17) pa_nil)))) pa_nil)))) pss_dead pss_nil)
    (pss_cons (ps_for PassesOwn.never rfl (pi_list (pv 8)) (pg_name (i := 10) scLaw4.nd rfl (Or.inl rfl)) (pss_one (ps_if (pt_not (pt_val (pe_call GS r10 rfl mS kS bS .nil pass0 (pa_cons (pv 1) (pa_cons (pv 6) (pa_cons (pv 2) (pa_cons (pv 3) (pa_cons (pv 10) pa_nil)))))))) pss_dead pss_nil)))
    (pss_cons (ps_if (PW.pt (pw_or (pt_not (pt_val (pe_call GY r12 rfl mY kY bY .nil pass0 (pa_cons (pv 1) (pa_cons (pv 6) (pa_cons (pv 2) (pa_cons (pv 3) pa_nil))))))) (pw_or1 (pt_not (pt_val (pe_callG GX gd2 r15 rfl mX kX bX (pa_cons (pv 1) (pa_cons (pv 6) (pa_cons (pv 2) (pa_cons (pe_callB (r := rLenA K) (call_lenA rfl) (by rfl) G.len PySem.boot_len (pa_cons (pv 3) pa_nil)) pa_nil)))))))))) pss_dead pss_nil)
    (pss_one (ps_ret (pe_or (pe_cmpR op_gt (pe_call GT r1 rfl mT kT bT .nil pass0 (pa_cons (pv 1) (pa_cons pe_int pa_nil))) pe_int (nomark _)) (pe_one (pe_call GW r10 rfl mW kW bW .nil pass0 (pa_cons (pv 2) pa_nil)))))))))))))))))))), ?_⟩
  have sz : sizeLine = 16777216 := sizeLine_eq
  refine ⟨_, rfl, a, is, rfl, sq, hl, fun p c H1 s1 hp hc pn1 => ?_⟩
  have tb1 : Tabs T H1 := tabs_same s1 tb
  -- names
  refine ⟨_, rfl, _, rfl, (by show 7 ≤ sizeLine; omega), fun l nl => ?_⟩
  have s1l := upd_new (o := .lst [V.int 2, .int 2, .int 3, .int 3, .int 4, .int 5, .int 6]) nl
  have hl7 : upd H1 l (.lst [V.int 2, .int 2, .int 3, .int 3, .int 4, .int 5, .int 6]) l = some (.lst [V.int 2, .int 2, .int 3, .int 3, .int 4, .int 5, .int 6]) := upd_same
  have pl7 := (pn1.ne nl).1.symm
  have pn1l := pn1.same s1l
  generalize upd H1 l (.lst [V.int 2, .int 2, .int 3, .int 3, .int 4, .int 5, .int 6]) = H1l at s1l hl7 pn1l ⊢
  refine ⟨p, c, l, _, _, rfl, .inl hl7, pl7, (by show 0 < 7; decide), (by show 7 < 1000; decide), pn1l, by decide, fun i x H2 ex k2 pn2 => ?_⟩
  obtain ⟨k, rfl, kk2, kk6⟩ : ∃ k : Nat, x = .int k ∧ 2 ≤ k ∧ k ≤ 6 := by
    match i, ex with
    | 0, ex => cases ex; exact ⟨2, rfl, by decide, by decide⟩
    | 1, ex => cases ex; exact ⟨2, rfl, by decide, by decide⟩
    | 2, ex => cases ex; exact ⟨3, rfl, by decide, by decide⟩
    | 3, ex => cases ex; exact ⟨3, rfl, by decide, by decide⟩
    | 4, ex => cases ex; exact ⟨4, rfl, by decide, by decide⟩
    | 5, ex => cases ex; exact ⟨5, rfl, by decide, by decide⟩
    | 6, ex => cases ex; exact ⟨6, rfl, by decide, by decide⟩
    | i + 7, ex => exact nomatch ex
  refine ⟨p, c, k, _, rfl, kk6, pn2, by decide, fun nm ns H3 dr k3 nnm hnm pn3 => ?_⟩
  have ln := dr.len
  have n2 : 2 ≤ ns.length := by omega
  have n6 : ns.length ≤ 6 := by omega
  have nd := dr.nd
  have nmo := fun n hn => (dr.dr n hn).nm
  have np : nm ≠ p := fun z => by
    obtain ⟨_, _, _, x, _⟩ := id pn2
    rw [z, x] at nnm; cases nnm
  -- rows
  refine ⟨_, rfl, _, rfl, nm, _, rfl, .inl (SqL.of hnm), _, rfl, p, c, 6, _, rfl, pn3, by decide, by decide, by decide, fun u H4 u0 u1 k4 pn4 => ?_⟩
  obtain ⟨u', rfl⟩ := Int.eq_ofNat_of_zero_le u0
  rw [List.length_map]
  refine ⟨p, c, ns.length, u', _, rfl, n2, n6, by omega, pn4, by decide, fun d rs0 H5 lrs ok0 k5 nd5 rw5 pn5 => ?_⟩
  have dp0 : d ≠ p := (pn4.ne nd5).1.symm
  have k35 := k4.trans k5
  have hnm5 := k35 _ _ np hnm
  have tb5 : Tabs T H5 := pn1.tabs ((theKeep s1l).trans (k2.trans (k3.trans k35))) tb1
  replace pn5 : Pen H5 p c 200 := pn5.mono (by decide)
  dsimp only [gName]
  show tSeq (tIfS _ _ _) _ _ [some (V.ref a), some (.ref p), some (.ref nm), some (.ref d), none, none, none, none, none, none, none, none, none, none, none, none, none, none] H5
  refine seq_mid (A := tIfS _ _ _) (fun σ' H' => ∃ (rw_ : Addr) (rs : List Row), σ' = [some (V.ref a), some (.ref p), some (.ref nm), some (.ref rw_), none, none, none, none, none, none, none, none, none, none, none, none, none, none] ∧ Keep p H5 H' ∧ Pen H' p c 201 ∧ RwL H' rw_ rs ∧ (∀ r ∈ rs, RwOk ns.length r) ∧ rs.length ≤ 5 ∧ rw_ ≠ p) (fun N kn => ?_) ?_
  · refine ⟨_, rfl, (by show 0 ≤ sizeLine; omega), fun e0 ne0 => ?_⟩
    have s6 := upd_new (o := .lst []) ne0
    have he0 : upd H5 e0 (.lst []) e0 = some (.lst []) := upd_same
    have pn6 := pn5.same s6
    generalize upd H5 e0 (.lst []) = H6 at s6 he0 pn6 ⊢
    have rw6 := rw5.same s6
    refine ⟨_, _, dp_rows rw6, dp_nil he0, rows_sh _, sh_nil, !decide (rs0 = []), by rw [rows_emp], ?_⟩
    by_cases em : rs0 = []
    · rw [decide_eq_true em]
      exact iteF (iteF (kn _ _ ⟨d, rs0, rfl, theKeep s6, pn6.mono (by decide), rw6, ok0, by omega, dp0⟩))
    rw [decide_eq_false em]
    refine iteT ⟨_, rfl, p, c, 3, _, rfl, pn6, by decide, by decide, by decide, fun r3 H7 r30 r31 k7 pn7 => ⟨rfl, decide (r3 = 0), congrArg V.bl (by rw [Bool.eq_iff_iff, decide_eq_true_iff, decide_eq_true_iff]; exact ⟨fun z => V.int.inj z, fun z => by rw [z]⟩), ?_⟩⟩
    have rw7 := rw6.keep pn6 dp0 k7
    have k57 : Keep p H5 H7 := (theKeep s6).trans k7
    by_cases r3z : ¬ r3 = 0
    · rw [decide_eq_false r3z]
      exact iteF (kn _ _ ⟨d, rs0, rfl, k57, pn7, rw7, ok0, by omega, dp0⟩)
    rw [decide_eq_true (Decidable.not_not.mp r3z)]
    refine iteT ?_
    obtain ⟨ras, hrw, ral⟩ := id rw7
    have c2 : cutV (ras.map V.ref) none (some 2) = (ras.take 2).map V.ref := by rw [show (some (2 : Int)) = some ((2 : Nat) : Int) from rfl, cut_n, List.map_take]
    have pcell : ∀ {H' : Hp} {x : Addr}, Pen H' p c 201 → H' x = none → x ≠ p := fun pn nx => (pn.ne nx).1.symm
    refine ⟨_, rfl, 2, rfl, d, _, rfl, SqL.of hrw, fun g1 ng1 => ?_⟩
    rw [c2]
    have s8 := upd_new (o := .lst ((ras.take 2).map V.ref)) ng1
    have hg1 : upd H7 g1 (.lst ((ras.take 2).map V.ref)) g1 = some (.lst ((ras.take 2).map V.ref)) := upd_same
    generalize upd H7 g1 (.lst ((ras.take 2).map V.ref)) = H8 at s8 hg1 ⊢
    refine ⟨_, rfl, 2, rfl, d, _, rfl, SqL.of (s8 _ _ hrw), fun g2 ng2 => ?_⟩
    rw [c2]
    have s9 := upd_new (o := .lst ((ras.take 2).map V.ref)) ng2
    have hg2 : upd H8 g2 (.lst ((ras.take 2).map V.ref)) g2 = some (.lst ((ras.take 2).map V.ref)) := upd_same
    generalize upd H8 g2 (.lst ((ras.take 2).map V.ref)) = H9 at s9 hg2 ⊢
    have al2 := all2_take ral 2
    have s79 := s8.trans s9
    refine ⟨g2, rfl, ⟨_, SqL.of hg2⟩, fun D hD => ?_⟩
    refine lc_it (walk_list (xs := (ras.take 2).map V.ref)) (fun i H' => ∃ bs : List Addr, Same H9 H' ∧ H' D = some (.lst (bs.map V.ref)) ∧ All2 (RwAt H') bs (((rs0.take 2).take i).map Row.mix)) ⟨[], upd_new hD, upd_same, All2.nil⟩ (fun i H' _ ⟨_, s', _⟩ => SqL.of (s' _ _ hg2)) ?_ ?_
    · rintro i x H' H'' hi ⟨bs, s', hd', al'⟩ ⟨rfl, ex⟩
      obtain ⟨ra, ea, rfl⟩ := map_at ex
      obtain ⟨r, er, hra⟩ := al2.get ea
      have lb := al'.1
      rw [List.length_map, List.length_take, List.length_take] at lb
      refine ⟨ra, _, rfl, SqT.of ((s79.trans s') _ _ hra), rfl, _, _, rfl, _, _, rfl, _, _, rfl, _, _, rfl, rfl, rfl, yes_of ⟨_, rfl, _, rfl, _, rfl, _, rfl, (by show 4 ≤ sizeLine; omega), fun b nb => ?_⟩⟩
      have sb := upd_new (o := .tup [V.int (r.t : Nat), .int (r.g : Nat), .int r.c, .int r.c]) nb
      have hb : RwAt (upd H'' b (.tup [V.int (r.t : Nat), .int (r.g : Nat), .int r.c, .int r.c])) b r.mix := upd_same
      generalize upd H'' b (.tup [V.int (r.t : Nat), .int (r.g : Nat), .int r.c, .int r.c]) = Hb at sb hb ⊢
      have hdb := sb _ _ hd'
      refine ⟨_, hdb, by rw [List.length_map]; omega, bs ++ [b], same_upd hD (s'.trans sb), by rw [upd_same, List.map_append]; rfl, ?_⟩
      rw [take_more er, List.map_append]
      exact ((al'.mono fun x y z => sb _ _ z).snoc hb).mono fun x y z => (upd_ne (ne_of z hdb (fun z => nomatch z))).trans z
    rintro H10 ⟨bs, s10, hd10, al10⟩
    rw [List.length_map, al2.1, List.take_length] at al10
    have s810 := s9.trans s10
    have lt2 : (rs0.take 2).length ≤ 2 := by rw [List.length_take]; omega
    have lbs := al10.1
    rw [List.length_map] at lbs
    have lra := al2.1
    refine ⟨g1, D, _, _, rfl, rfl, s810 _ _ hg1, hd10, by rw [List.length_map, List.length_map]; omega, fun l4 nl4 => ?_⟩
    rw [← List.map_append]
    have s11 := upd_new (o := .lst ((ras.take 2 ++ bs).map V.ref)) nl4
    have hl4 : upd H10 l4 (.lst ((ras.take 2 ++ bs).map V.ref)) l4 = some (.lst ((ras.take 2 ++ bs).map V.ref)) := upd_same
    generalize upd H10 l4 (.lst ((ras.take 2 ++ bs).map V.ref)) = H11 at s11 hl4 ⊢
    refine ⟨5, rfl, l4, _, rfl, SqL.of hl4, fun l5 nl5 => ?_⟩
    rw [show cutV ((ras.take 2 ++ bs).map V.ref) none (some 5) = (ras.take 2 ++ bs).map V.ref by rw [show (some (5 : Int)) = some ((5 : Nat) : Int) from rfl, cut_n, List.take_of_length_le (by rw [List.length_map, List.length_append]; omega)]]
    have s12 := upd_new (o := .lst ((ras.take 2 ++ bs).map V.ref)) nl5
    have hl5 : upd H11 l5 (.lst ((ras.take 2 ++ bs).map V.ref)) l5 = some (.lst ((ras.take 2 ++ bs).map V.ref)) := upd_same
    generalize upd H11 l5 (.lst ((ras.take 2 ++ bs).map V.ref)) = H12 at s12 hl5 ⊢
    have s712 := (s79.trans s10).trans (s11.trans s12)
    have al12 : All2 (RwAt H12) (ras.take 2 ++ bs) (rs0.take 2 ++ (rs0.take 2).map Row.mix) := all2_app (al2.mono fun x y z => s712 _ _ z) (al10.mono fun x y z => (s11.trans s12) _ _ z)
    have okm : ∀ r ∈ rs0.take 2 ++ (rs0.take 2).map Row.mix, RwOk ns.length r := fun r mr => by
      rcases List.mem_append.mp mr with mr | mr
      · exact ok0 r (List.mem_of_mem_take mr)
      · obtain ⟨r', mr', rfl⟩ := List.mem_map.mp mr
        exact (ok0 r' (List.mem_of_mem_take mr')).mix
    have lm : (rs0.take 2 ++ (rs0.take 2).map Row.mix).length ≤ 5 := by rw [List.length_append, List.length_map]; omega
    generalize rs0.take 2 ++ (rs0.take 2).map Row.mix = rs1 at al12 okm lm
    generalize ras.take 2 ++ bs = as1 at hl5 al12
    refine ⟨_, rfl, l5, rfl, ⟨_, SqL.of hl5⟩, fun D2 hD2 => ?_⟩
    refine lc_it (walk_list (xs := as1.map V.ref)) (fun i H' => ∃ bs : List Addr, Same H12 H' ∧ H' D2 = some (.lst (bs.map V.ref)) ∧ All2 (RwAt H') bs ((rs1.take i).map Row.flat)) ⟨[], upd_new hD2, upd_same, All2.nil⟩ (fun i H' _ ⟨_, s', _⟩ => SqL.of (s' _ _ hl5)) ?_ ?_
    · rintro i x H' H'' hi ⟨bs, s', hd', al'⟩ ⟨rfl, ex⟩
      obtain ⟨ra, ea, rfl⟩ := map_at ex
      obtain ⟨r, er, hra⟩ := al12.get ea
      have lb := al'.1
      rw [List.length_map, List.length_take] at lb
      refine ⟨ra, _, rfl, SqT.of (s' _ _ hra), rfl, _, _, rfl, _, _, rfl, _, _, rfl, _, _, rfl, rfl, rfl, yes_of ⟨_, rfl, _, rfl, _, rfl, _, rfl, (by show 4 ≤ sizeLine; omega), fun b nb => ?_⟩⟩
      have sb := upd_new (o := .tup [V.int (r.g : Nat), .int (r.t : Nat), .int r.c, .int r.c]) nb
      have hb : RwAt (upd H'' b (.tup [V.int (r.g : Nat), .int (r.t : Nat), .int r.c, .int r.c])) b r.flat := upd_same
      generalize upd H'' b (.tup [V.int (r.g : Nat), .int (r.t : Nat), .int r.c, .int r.c]) = Hb at sb hb ⊢
      have hdb := sb _ _ hd'
      refine ⟨_, hdb, by rw [List.length_map]; omega, bs ++ [b], same_upd hD2 (s'.trans sb), by rw [upd_same, List.map_append]; rfl, ?_⟩
      rw [take_more er, List.map_append]
      exact ((al'.mono fun x y z => sb _ _ z).snoc hb).mono fun x y z => (upd_ne (ne_of z hdb (fun z => nomatch z))).trans z
    rintro H13 ⟨bs2, s13, hd13, al13⟩
    rw [List.length_map, al12.1, List.take_length] at al13
    have s713 := s712.trans s13
    exact kn _ _ ⟨D2, rs1.map Row.flat, rfl, k57.trans (theKeep s713), pn7.same s713, ⟨bs2, hd13, al13⟩, fun r mr => by
      obtain ⟨r', mr', rfl⟩ := List.mem_map.mp mr
      exact (okm r' mr').flat, by rw [List.length_map]; exact lm, ((pn7.same s712).ne hD2).1.symm⟩
  rintro σ H6 ⟨rw_, rs, rfl, k6, pn6, rw6, okr, l5, rp⟩
  have hnm6 := k6 _ _ np hnm5
  have tb6 : Tabs T H6 := pn5.tabs k6 tb5
  -- handed, told
  refine ⟨_, rfl, _, rfl, _, rfl, p, c, nm, rw_, ns, rs, _, rfl, pn6, by decide, np, rp, hnm6, nd, nmo, rw6, okr, by omega, fun hd has H7 k7 nhd hhd hh7 pn7 => ?_⟩
  have hnm7 := k7 _ _ np hnm6
  refine ⟨_, rfl, nm, _, rfl, .inl (SqL.of hnm7), fun tl ntl => ⟨_, _, rfl, ?_⟩⟩
  have s8 := upd_new (o := .lst (ns.map V.str)) ntl
  have htl : upd H7 tl (.lst (ns.map V.str)) tl = some (.lst (ns.map V.str)) := upd_same
  have hdp : hd ≠ p := (pn6.ne nhd).1.symm
  have tlp := (pn7.ne ntl).1.symm
  have pn8 := pn7.same s8
  have hdtl : hd ≠ tl := ne_of_none hhd ntl
  have nmtl : nm ≠ tl := ne_of_none hnm7 ntl
  have rw7 := rw6.keep pn6 rp k7
  have rwtl : rw_ ≠ tl := let ⟨_, e, _⟩ := rw7; ne_of_none e ntl
  have nmhd : nm ≠ hd := ne_of_none hnm6 nhd
  have rwhd : rw_ ≠ hd := let ⟨_, e, _⟩ := rw6; ne_of_none e nhd
  have chd : c ≠ hd := (pn6.ne nhd).2
  have ctl : c ≠ tl := (pn7.ne ntl).2
  generalize upd H7 tl (.lst (ns.map V.str)) = H8 at s8 htl pn8 ⊢
  have hhd8 := s8 _ _ hhd
  have hh8 : Hands C CH H8 has (rs.map (mkH ns)) := hh7.mono fun _ _ z => z.same s8
  -- swap
  dsimp only
  show tSeq (tAsg _ _) _ _ [some (V.ref a), some (.ref p), some (.ref nm), some (.ref rw_), some (.ref hd), some (.ref tl), none, none, none, none, none, none, none, none, none, none, none, none] H8
  refine seq_any (R := fun v H' => ∃ b, v = .ref b ∧ Same H8 H' ∧ SwAt C CH CS H' b ns (rs.map (mkH ns))) (fun Q2 kq => ⟨_, rfl, _, rfl, mk_swap0 htl (.inl hhd8) hh8 (sw_ok n2 n6 nd nmo okr) (by rw [List.length_map]; omega) fun b H' s _ sw => kq _ _ ⟨b, rfl, s, sw⟩⟩) ?_
  rintro _ H9 ⟨b, rfl, s9, sw9⟩
  have hhd9 := s9 _ _ hhd8
  have htl9 := s9 _ _ htl
  -- clear, append
  refine ⟨_, rfl, .inl ⟨rfl, _, SqL.of hhd9⟩, hd, _, rfl, rfl, hhd9, ?_⟩
  refine ⟨_, rfl, .inl ⟨rfl, _, SqL.of (xs := ns.map V.str) (by rw [upd_ne (Ne.symm hdtl)]; exact htl9)⟩, tl, ns.map V.str, _, rfl, rfl, by rw [upd_ne (Ne.symm hdtl)]; exact htl9, by rw [List.length_map]; omega, ?_⟩
  have nlA : NL H9 (upd (upd H9 hd (.lst [])) tl (.lst (ns.map V.str ++ [V.str "cy"]))) := fun x o e n => by
    rw [upd_ne (fun z => n _ (by rw [z, htl9] at e; exact (Option.some.inj e).symm)), upd_ne (fun z => n _ (by rw [z, hhd9] at e; exact (Option.some.inj e).symm))]
    exact e
  have sw10 := sw9.nl nlA
  have pn10 : Pen (upd (upd H9 hd (.lst [])) tl (.lst (ns.map V.str ++ [V.str "cy"]))) p c 213 := ((((pn8.same s9).upd (Ne.symm hdp) chd).upd (Ne.symm tlp) ctl)).mono (by decide)
  have hnm10 : upd (upd H9 hd (.lst [])) tl (.lst (ns.map V.str ++ [V.str "cy"])) nm = some (.lst (ns.map V.str)) := by rw [upd_ne nmtl, upd_ne nmhd]; exact s9 _ _ (s8 _ _ hnm7)
  have rw10 : RwL (upd (upd H9 hd (.lst [])) tl (.lst (ns.map V.str ++ [V.str "cy"]))) rw_ rs := by
    obtain ⟨as, e1, e2⟩ := (rw7.same s8).same s9
    exact ⟨as, by rw [upd_ne rwtl, upd_ne rwhd]; exact e1, e2.mono fun _ _ z => nlA _ _ z fun _ w => nomatch w⟩
  have tb10 : Tabs T (upd (upd H9 hd (.lst [])) tl (.lst (ns.map V.str ++ [V.str "cy"]))) := tabs_nl nlA (tabs_same s9 (tabs_same s8 (pn6.tabs k7 tb6)))
  generalize upd (upd H9 hd (.lst [])) tl (.lst (ns.map V.str ++ [V.str "cy"])) = H10 at nlA sw10 pn10 hnm10 rw10 tb10 ⊢
  obtain ⟨ras, hrw10, ral10⟩ := id rw10
  -- line, sets
  refine ⟨_, rfl, nm, _, rfl, .inl (SqL.of hnm10), _, rfl, ?_⟩
  rw [List.length_map]
  refine ⟨ns.length, rw_, rs, rfl, n6, rw10, okr, by omega, fun ln_ H11 s11 nln hln => ?_⟩
  refine ⟨_, rfl, rw_, _, rfl, .inl (SqL.of (s11 _ _ hrw10)), ?_⟩
  rw [List.length_map, ral10.1]
  refine ⟨rs.length, rfl, by omega, fun sts H12 s12 nst sst => ⟨_, _, rfl, ?_⟩⟩
  have hln12 := s12 _ _ hln
  have s1012 := s11.trans s12
  have sw12 := sw10.same s1012
  obtain ⟨dx, pp, ph, pnn, has', nas, hb1, hb2, hb3, hb4, hb5, hb6⟩ := id sw12
  have lsm := line_sm okr (show rs.length ≤ 60 by omega)
  rw [nets_line nd okr] at hb6
  dsimp only [gName]
  show tSeq _ _ _ [some (V.ref a), some (.ref p), some (.ref nm), some (.ref rw_), some (.ref hd), some (.ref tl), some (.ref b), some (.ref ln_), some (.ref sts), none, none, none, none, none, none, none, none, none] H12
  refine ⟨_, rfl, b, CS, dx, _, _, rfl, hb1, R.cl, R.nN, fs_n _ _ _, _, rfl, pnn, ln_, nas, lineF ns.length rs, rfl, hb5, hb6, hln12, lsm, by rw [line_len]; exact n6, fun H13 s13 => ⟨true, rfl, iteF ?_⟩⟩
  refine ⟨_, rfl, .ref b, rfl, .inr ⟨b, ns, _, rfl, sw12.same s13, by rw [List.length_map]; omega, fun l => absurd l (by rw [List.length_map]; omega), fun _ as H14 s14 sl g ng => ?_⟩⟩
  rw [List.length_map] at sl
  have s15 := upd_new (o := .lst (as.map V.ref)) ng
  have hg : SetL (upd H14 g (.lst (as.map V.ref))) g (setsN rs.length) := ⟨as, upd_same, sl.same s15⟩
  generalize upd H14 g (.lst (as.map V.ref)) = H15 at s15 hg ⊢
  have s1215 := (s13.trans s14).trans s15
  have sst15 := sst.same s1215
  refine ⟨_, rfl, _, _, dp_sets hg, dp_sets sst15, sets_sh _, sets_sh _, false, by rw [eqv_sets]; simp, iteF ?_⟩
  have s1015 := s1012.trans s1215
  have sw15 := sw12.same s1215
  have hln15 := s1215 _ _ hln12
  have hrw15 := s1015 _ _ hrw10
  have ral15 : All2 (RwAt H15) ras rs := ral10.mono fun _ _ z => s1015 _ _ z
  obtain ⟨dx, pp, ph, pnn, has', nas, hb1, hb2, hb3, hb4, hb5, hb6⟩ := id sw15
  have hnm15 := s1015 _ _ hnm10
  -- kinds
  have ll : (lineF ns.length rs).length = ns.length := line_len _ _
  dsimp only [tNext]
  show tSeq (tAsg _ _) _ _ [some (V.ref a), some (.ref p), some (.ref nm), some (.ref rw_), some (.ref hd), some (.ref tl), some (.ref b), some (.ref ln_), some (.ref sts), none, none, none, none, none, none, none, none, none] H15
  refine seq_any (R := fun v H' => ∃ kd, v = .ref kd ∧ Same H15 H' ∧ H' kd = some (.tup [.bl (((ns.map (net (rs.map (mkH ns)))).all is0)), .bl (((ns.map (net (rs.map (mkH ns)))).all ge0)), .bl ((rs.map (mkH ns)).all fun h => decide (h.c = h.d))])) (fun Q2 kq => ?_) ?_
  · rw [nets_line nd okr] at kq
    refine ⟨_, rfl, (by show 1 ≤ sizeLine; omega), fun z nz => ?_⟩
    have s16 := upd_new (o := .lst [V.int 0]) nz
    have hz : upd H15 z (.lst [V.int 0]) z = some (.lst [V.int 0]) := upd_same
    generalize upd H15 z (.lst [V.int 0]) = H16 at s16 hz ⊢
    refine ⟨_, rfl, ln_, _, rfl, .inl (SqL.of (s16 _ _ hln15)), ?_⟩
    rw [List.length_map, ll]
    refine ⟨z, _, _, rfl, rfl, hz, by omega, by omega, (by show 1 * _ ≤ sizeLine; rw [Int.toNat_natCast]; omega), fun q0 nq0 => ?_⟩
    have s17 := upd_new (o := .lst (List.replicate ((ns.length : Nat) : Int).toNat [V.int 0]).flatten) nq0
    have hq0 : upd H16 q0 (.lst (List.replicate ((ns.length : Nat) : Int).toNat [V.int 0]).flatten) q0 = some (.lst ((List.replicate ns.length (0 : Int)).map V.int)) := by rw [upd_same, Int.toNat_natCast, List.flatten_replicate_singleton, List.map_replicate]
    generalize upd H16 q0 (.lst (List.replicate ((ns.length : Nat) : Int).toNat [V.int 0]).flatten) = H17 at s17 hq0 ⊢
    have s1517 := s16.trans s17
    refine ⟨_, _, dp_z (s1517 _ _ hln15), dp_z hq0, sh_z _, sh_z _, ?_⟩
    rw [eqv_z, show decide (lineF ns.length rs = List.replicate ns.length 0) = (lineF ns.length rs).all is0 by rw [all_is0, ll]]
    refine ⟨_, rfl, ln_, _, rfl, SqL.of (s1517 _ _ hln15), by omega, fun mn mem le => ⟨_, _, rfl, rfl, ?_⟩⟩
    dsimp only
    rw [show decide ((0 : Int) ≤ mn) = (lineF ns.length rs).all ge0 from (all_ge0 mem le).symm]
    refine ⟨_, rfl, rw_, rfl, ⟨_, SqL.of (s1517 _ _ hrw15)⟩, fun D hD => ?_⟩
    refine lc_list (K := K) (a := rw_) (xs := ras.map V.ref) (fun i H' => Same H17 H' ∧ RwL H' D ((rs.take i).filter fun r => !decide (r.c = r.d))) ⟨upd_new hD, [], upd_same, All2.nil⟩ (fun i H' _ z => SqL.of (z.1 _ _ (s1517 _ _ hrw15))) ?_ ?_
    · rintro i x H' hx ⟨s', as', hd', al'⟩
      obtain ⟨ra, era, rfl⟩ := map_at hx
      obtain ⟨r, er, hra⟩ := ral15.get era
      have li := (List.getElem?_eq_some_iff.mp er).1
      have hra' : H' ra = some (.tup (rV r)) := s' _ _ (s1517 _ _ hra)
      have a2 : atI (rV r) 2 = some (.int r.c) := atI_nat (j := 2) rfl
      have a3 : atI (rV r) 3 = some (.int r.d) := atI_nat (j := 3) rfl
      have step : ((rs.take (i + 1)).filter fun r => !decide (r.c = r.d)) = ((rs.take i).filter fun r => !decide (r.c = r.d)) ++ if (!decide (r.c = r.d)) = true then [r] else [] := by
        rw [take_more er, List.filter_append, List.filter_cons, List.filter_nil]
      have lf : ((rs.take i).filter fun r => !decide (r.c = r.d)).length ≤ 5 := by
        have := List.length_filter_le (fun r => !decide (r.c = r.d)) (rs.take i)
        rw [List.length_take] at this
        omega
      refine ⟨rfl, _, rfl, ra, rV r, _, _, rfl, rfl, SqT.of hra', a2, _, rfl, ra, rV r, _, _, rfl, rfl, SqT.of hra', a3, rfl, !decide (r.c = r.d), ?_, ?_⟩
      · exact congrArg V.bl (by rw [Bool.eq_iff_iff]; simp)
      cases cc : (!decide (r.c = r.d)) with
      | false =>
        rw [cc] at step
        refine iteF ⟨s', as', hd', ?_⟩
        rw [step]
        simpa using al'
      | true =>
        rw [cc] at step
        refine iteT ⟨_, rfl, _, hd', by rw [List.length_map, al'.1]; omega, same_upd hD s', as' ++ [ra], by rw [upd_same, List.map_append]; rfl, ?_⟩
        rw [step]
        exact (al'.snoc hra').mono fun x y z => (upd_ne (ne_of z hd' (fun z => nomatch z))).trans z
    rintro H18 ⟨s18, rl18⟩
    rw [List.length_map, ral15.1, List.take_length] at rl18
    refine ⟨(by show 0 ≤ sizeLine; omega), fun e0 ne0 => ?_⟩
    have s19 := upd_new (o := .lst []) ne0
    refine ⟨_, _, dp_rows (rl18.same s19), dp_nil upd_same, rows_sh _, sh_nil, ?_⟩
    rw [rows_emp, ← all_priced ns rs]
    generalize upd H18 e0 (.lst []) = H19 at s19 ⊢
    refine ⟨(by show 3 ≤ sizeLine; omega), fun kd nkd => kq _ _ ⟨kd, rfl, ((s1517.trans s18).trans s19).trans (upd_new nkd), upd_same⟩⟩
  rintro _ H16 ⟨kd, rfl, s16, hkd⟩
  have sw16 := sw15.same s16
  obtain ⟨dx, pp, ph, pnn, has', nas, hb1, hb2, hb3, hb4, hb5, hb6⟩ := id sw16
  show tSeq (tIfS _ _ _) _ _ [some (V.ref a), some (.ref p), some (.ref nm), some (.ref rw_), some (.ref hd), some (.ref tl), some (.ref b), some (.ref ln_), some (.ref sts), some (.ref kd), none, none, none, none, none, none, none, none] H16
  refine ⟨_, rfl, b, dx, _, rfl, hb1, b, ns, _, rfl, sw16, n6, fun H17 s17 => ?_⟩
  refine ⟨_, rfl, b, dx, _, rfl, s17 _ _ hb1, b, ns, _, rfl, sw16.same s17, n6, fun H18 s18 => ?_⟩
  refine ⟨_, rfl, b, dx, _, rfl, (s17.trans s18) _ _ hb1, b, ns, _, rfl, (sw16.same s17).same s18, by rw [List.length_map]; omega, fun H19 s19 => ?_⟩
  refine ⟨(by show 3 ≤ sizeLine; omega), fun t3 nt3 => ?_⟩
  have s20 := upd_new (o := .tup [V.bl ((ns.map (net (rs.map (mkH ns)))).all is0), .bl ((ns.map (net (rs.map (mkH ns)))).all ge0), .bl ((rs.map (mkH ns)).all fun h => decide (h.c = h.d))]) nt3
  have ht3 : upd H19 t3 (.tup [V.bl ((ns.map (net (rs.map (mkH ns)))).all is0), .bl ((ns.map (net (rs.map (mkH ns)))).all ge0), .bl ((rs.map (mkH ns)).all fun h => decide (h.c = h.d))]) t3 = some (.tup [V.bl ((ns.map (net (rs.map (mkH ns)))).all is0), .bl ((ns.map (net (rs.map (mkH ns)))).all ge0), .bl ((rs.map (mkH ns)).all fun h => decide (h.c = h.d))]) := upd_same
  generalize upd H19 t3 (.tup [V.bl ((ns.map (net (rs.map (mkH ns)))).all is0), .bl ((ns.map (net (rs.map (mkH ns)))).all ge0), .bl ((rs.map (mkH ns)).all fun h => decide (h.c = h.d))]) = H20 at s20 ht3 ⊢
  have s1620 := ((s17.trans s18).trans s19).trans s20
  refine ⟨_, rfl, _, _, kin_dp ht3, kin_dp (s1620 _ _ hkd), kin_sh _ _ _, kin_sh _ _ _, false, by rw [kin_eqv]; rfl, iteF ?_⟩
  have s1520 := s16.trans s1620
  have sw20 := sw15.same s1520
  have hln20 := s1520 _ _ hln15
  have hnm20 := s1520 _ _ hnm15
  obtain ⟨dx, pp, ph, pnn, has', nas, hb1, hb2, hb3, hb4, hb5, hb6⟩ := id sw20
  -- nets, one by one
  refine ⟨_, rfl, _, rfl, nm, ln_, _, _, rfl, SqL.of hnm20, SqL.of hln20, fun D hD => ?_⟩
  refine lc_it (walk_zip (K := K) (n := ns.length) (xs := ns.map V.str) (ys := (lineF ns.length rs).map V.int) (by rw [List.length_map, List.length_map, ll, Nat.min_self])) (fun i H' => Same H20 H' ∧ H' D = some (.lst (List.replicate i (V.bl true)))) ⟨upd_new hD, upd_same⟩ (fun i H' _ z => ⟨SqL.of (z.1 _ _ hnm20), SqL.of (z.1 _ _ hln20)⟩) ?_ ?_
  · rintro i v H' H'' hi ⟨s', h'⟩ ⟨T', x, y, rfl, nT, rfl, ex, ey⟩
    obtain ⟨n, en, rfl⟩ := map_at ex
    obtain ⟨z, ez, rfl⟩ := map_at ey
    have zm : z ∈ lineF ns.length rs := List.mem_of_getElem? ez
    rw [← nets_line nd okr, List.getElem?_map, en] at ez
    have ez' : net (rs.map (mkH ns)) n = z := Option.some.inj ez
    have mem : n ∈ ns := List.mem_of_getElem? en
    have sT := upd_new (o := .tup [.str n, .int z]) nT
    have hT : upd H' T' (.tup [.str n, .int z]) T' = some (.tup [.str n, .int z]) := upd_same
    generalize upd H' T' (.tup [.str n, .int z]) = H3 at sT hT ⊢
    have s3 := s'.trans sT
    refine ⟨T', _, rfl, SqT.of hT, rfl, _, _, rfl, _, _, rfl, rfl, rfl, yes_of ⟨_, rfl, b, dx, _, rfl, s3 _ _ hb1, fs_no _ _ _ (by decide +kernel) (by decide +kernel) (by decide +kernel), _, rfl, b, .str n, ns, rs.map (mkH ns), rfl, sw20.same s3, nd, .inl ⟨n, rfl, nmo n mem, mem, fun g H4 s4 six => ?_⟩⟩⟩
    rw [ez'] at six
    exact ⟨_, rfl, g, z, rfl, six, lsm z zm, _, s4 _ _ (sT _ _ h'), by rw [List.length_replicate]; omega, same_upd hD (s3.trans s4), by rw [rep_snoc, upd_same]⟩
  rintro H21 ⟨s21, h21⟩
  refine ⟨D, List.replicate _ true, rfl, SqL.of (by rw [h21, List.map_replicate]), ?_⟩
  rw [all_true]
  refine ⟨true, rfl, iteF ?_⟩
  -- set by set
  have s1521 := s1520.trans s21
  have s1021 := s1015.trans s1521
  have sw21 := sw15.same s1521
  have hnm21 := s1521 _ _ hnm15
  have pn21 : Pen H21 p c 300 := (pn10.same s1021).mono (by decide)
  have rw21 := rw10.same s1021
  have tb21 : Tabs T H21 := tabs_same s1021 tb10
  obtain ⟨sas, hst, sal⟩ := sst15.same s1521
  have few : (setsN rs.length).length ≤ 4096 := upto_len (t := rs.length + 1) (by omega) (by omega)
  have lsa := sal.1
  have stp : sts ≠ p := by
    have e : H12 sts ≠ none := by obtain ⟨_, e, _⟩ := sst; rw [e]; exact fun z => nomatch z
    exact fun z => by
      obtain ⟨_, _, _, x, _⟩ := pn10.same s11
      rw [← z, nst] at x
      cases x
  obtain ⟨pcs, pt, pr, hpp, _⟩ := id pn21
  refine ⟨_, rfl, sts, rfl, ⟨_, SqL.of hst⟩, ?_⟩
  refine for_list (xs := sas.map V.ref) (fun j σ H' => ∃ z10 : Option V, σ = [some (V.ref a), some (.ref p), some (.ref nm), some (.ref rw_), some (.ref hd), some (.ref tl), some (.ref b), some (.ref ln_), some (.ref sts), some (.ref kd), z10, none, none, none, none, none, none, none] ∧ Keep p H21 H' ∧ Pen H' p c (300 + 20 * j)) ⟨none, rfl, Keep.refl _ _, pn21⟩ (fun j σ H' _ ⟨_, _, k', _⟩ => SqL.of (k' _ _ stp hst)) ?_ ?_
  · rintro j x σ H' ex ⟨z10, rfl, k', pn'⟩
    obtain ⟨da, ed, rfl⟩ := map_at ex
    obtain ⟨ks, eks, hks⟩ := sal.get ed
    have li := (List.getElem?_eq_some_iff.mp ed).1
    obtain ⟨asc, lt⟩ := set_ok (show rs.length ≤ 5 from l5) (List.mem_of_getElem? eks)
    refine ⟨_, rfl, _, rfl, _, rfl, _, rfl, _, rfl, p, c, b, nm, rw_, da, ns, rs, ks, _, rfl, pn', by omega, np, rp, sw21.keepP pn21 k', k' _ _ np hnm21, n2, n6, nd, nmo, rw21.keep pn21 rp k', okr, by omega, k' _ _ (ne_of hks hpp (fun z => nomatch z)) hks, asc, lt, fun H'' k'' pn'' => ⟨true, rfl, iteF ?_⟩⟩
    exact ⟨_, rfl, k'.trans k'', pn''.mono (by omega)⟩
  rintro σ H22 ⟨z10, rfl, k22, pn22⟩
  replace pn22 : Pen H22 p c 90000 := pn22.mono (by rw [List.length_map]; omega)
  have sw22 := sw21.keepP pn21 k22
  have hnm22 := k22 _ _ np hnm21
  have rw22 := rw21.keep pn21 rp k22
  have okh : ∀ h ∈ rs.map (mkH ns), HnOk h := fun h hm => by
    obtain ⟨r, hr', rfl⟩ := List.mem_map.mp hm
    exact hnd_ok nd nmo (okr r hr')
  refine ⟨_, rfl, _, rfl, _, rfl, _, rfl, p, c, b, nm, rw_, ns, rs, _, rfl, pn22, by decide, np, rp, sw22, hnm22, n2, n6, nd, nmo, rw22, okr, by omega, fun H23 k23 pn23 => ⟨true, rfl, iteF ?_⟩⟩
  have sw23 := sw22.keepP pn22 k23
  have hnm23 := k23 _ _ np hnm22
  obtain ⟨ras23, hrw23, ral23⟩ := rw22.keep pn22 rp k23
  have tb23 : Tabs T H23 := pn21.tabs (k22.trans k23) tb21
  refine ⟨_, rfl, _, rfl, _, rfl, _, rfl, rw_, _, rfl, .inl (SqL.of hrw23), ?_⟩
  rw [List.length_map, ral23.1]
  refine ⟨p, c, b, nm, ns, rs.map (mkH ns), _, by rw [List.length_map]; rfl, tb23, pn23, by decide, np, sw23, hnm23, n2, n6, nd, dr.dr, okh, by rw [List.length_map]; omega, fun H24 kn24 pn24 => ⟨true, rfl, iteF ?_⟩⟩
  have hnm24 := kn24 _ _ np hnm23 (fun _ z => nomatch z)
  refine ⟨_, rfl, p, c, 4, _, rfl, pn24, by decide, by decide, by decide, fun r H25 r0 r1 k25 pn25 => ⟨_, _, rfl, rfl, decide (0 < r), rfl, ?_⟩⟩
  by_cases rz : 0 < r
  · rw [decide_eq_true rz]
    exact iteT (q _)
  · rw [decide_eq_false rz]
    exact iteF ⟨_, rfl, nm, ns, rfl, k25 _ _ np hnm24, n2, n6, nd, nmo, fun H' => q H'⟩
end
end K5

/-! The facts of the opened module, and what they give. -/
namespace K5
open PySem PySem.Spec PyProof.Rows L2 LamX K1 K18

abbrev hC (K : PySem.W.Frag) : Addr := He.ga K "HandOver"
theorem propB_ok {K : PySem.W.Frag} {C : Addr} {m : Str} (h : propB K C m = true) : PropOf K C m (He.ma K C m) (gP K C m) := by
  obtain ⟨h1, h⟩ := He.ba h
  obtain ⟨h2, h⟩ := He.ba h
  obtain ⟨h3, h4⟩ := He.ba h
  refine ⟨He.eqO_ok h1, He.eqO_ok h2, of_decide_eq_true h3, ?_⟩
  unfold gP
  split at h4
  · rename_i f r e
    exact ⟨r, by rw [e]⟩
  · cases h4
theorem ownB_ok {K : PySem.W.Frag} {x m : Str} (h : ownB K x m = true) : OwnM K (He.ga K x) m (He.ma K (He.ga K x) m) := ⟨He.eqO_ok (He.ba h).1, (He.ba h).2⟩
theorem cvB_ok {K : PySem.W.Frag} {f : Str} {n : Int} (h : cvB K f n = true) : ∃ u, ClX.CVal K (sC K) (.type "type") f (.int n) u := by
  unfold cvB at h
  split at h
  · rename_i j t e
    have h := of_decide_eq_true h
    subst h
    exact ⟨_, e, ⟨t, rfl⟩⟩
  · cases h
structure ClsFa (K : PySem.W.Frag) (x : Str) : Prop where
  f : ClsF K (He.ga K x)
  mkc : Mk K (He.ga K x) (He.ma K (He.ga K x) "__init__")
  nf : PySem.W.notFirst K (He.ga K x) (.ref (He.ga K x)) = true
  ne : PySem.W.findIn K (.ref (He.ga K x)) "__ne__" = some (some (.builtin "object.__ne__"))
  ob : PySem.W.subIn K (.ref (He.ga K x)) (.type "object") = some true
theorem clsB_ok {K : PySem.W.Frag} {x : Str} (hn : PySem.W.specialIn K (.builtin "object.__class__") "__get__" = some (some (.builtin "getset_descriptor.__get__"))) (ht : PySem.W.takesIn K (.builtin "object.__class__") = some true) (h : clsB K x = true) : ClsFa K x := by
  obtain ⟨h1, h⟩ := He.ba h
  obtain ⟨h2, h⟩ := He.ba h
  obtain ⟨h3, h⟩ := He.ba h
  obtain ⟨h4, h⟩ := He.ba h
  obtain ⟨h5, h⟩ := He.ba h
  obtain ⟨h6, h⟩ := He.ba h
  obtain ⟨h7, h8⟩ := He.ba h
  exact ⟨⟨He.cls_ok h1, He.eqO_ok h3, hn, ht, of_decide_eq_true h4, of_decide_eq_true h5⟩, He.mkr_ok h2, h6, He.eqO_ok h7, of_decide_eq_true h8⟩
theorem mroB_ok {C : Addr} {l : List Value} (h : mroB C l = true) : ∃ bm, l = .ref C :: bm ∧ PySem.HandSPX.refsVE bm = true := by
  unfold mroB at h
  split at h
  · rename_i c bm
    obtain ⟨h1, h2⟩ := He.ba h
    exact ⟨bm, by rw [of_decide_eq_true h1], h2⟩
  · cases h
theorem oexB_ok {K : PySem.W.Frag} {C : Addr} (h : oexB K C = true) :
    ∃ nm q N bs bm sn sub ab col dd k0 k1 k2 k3 k5, K.lookup C = some (excClassObj nm q C N bs bm true sn sub ab col dd k0 k1 k2 k3 k5 "ValueError.__new__") ∧ PySem.HandSPX.refsVE bm = true := by
  unfold oexB at h
  cases q : K.lookup C with
  | none => rw [q] at h; cases h
  | some o =>
    obtain ⟨oc, od, dt, sl⟩ := o
    rw [q] at h
    cases oc with
    | type t =>
      cases dt with
      | cls cd =>
        have h' : (t == "type" && ((match sl.toList with
          | [_, _, _, _, some (.builtin n), _] => n == "ValueError.__new__"
          | _ => false) && (!cd.hasDel && (cd.hasDict && mroB C cd.mro)))) = true := h
        obtain ⟨a1, h'⟩ := He.ba h'
        obtain ⟨a2, h'⟩ := He.ba h'
        obtain ⟨a3, h'⟩ := He.ba h'
        obtain ⟨a4, a5⟩ := He.ba h'
        have a1 := eq_of_beq a1
        subst a1
        split at a2
        · rename_i k0 k1 k2 k3 n k5 hs
          have a2 := eq_of_beq a2
          subst a2
          have hsl : sl = #[k0, k1, k2, k3, some (.builtin "ValueError.__new__"), k5] := by
            obtain ⟨l⟩ := sl
            simp only at hs
            rw [hs]
          subst hsl
          obtain ⟨nm, bs, mro, ns, qn, hd, sn, sub, ab, col, del⟩ := cd
          simp only [Bool.not_eq_true'] at a3 a4
          obtain ⟨bm, e5, a6⟩ := mroB_ok a5
          simp only at e5
          subst a3 a4 e5
          exact ⟨nm, qn, ns, bs, bm, sn, sub, ab, col, od, k0, k1, k2, k3, k5, rfl, a6⟩
        · cases a2
      | _ => cases h
    | _ => cases h
structure ErrFa (K : PySem.W.Frag) (x : Str) (fs : List Str) : Prop where
  o : OexC K (He.ga K x)
  e : ExcC K (He.ga K x)
  i : PySem.W.findIn K (.ref (He.ga K x)) "__init__" = some (some (.ref (He.ma K (He.ga K x) "__init__")))
  it : PySem.W.typeIn K (.ref (He.ma K (He.ga K x) "__init__")) = some (.type "function")
  le : PySem.W.exmOne K (.ref (He.ga K x)) (.ref (He.ga K "LastError")) = some true
  nf : ∀ f ∈ fs, PySem.W.findIn K (.ref (He.ga K x)) f = some none
theorem errB_ok {K : PySem.W.Frag} {x : Str} {fs : List Str} (hn : PySem.W.specialIn K (.builtin "object.__class__") "__get__" = some (some (.builtin "getset_descriptor.__get__"))) (ht : PySem.W.takesIn K (.builtin "object.__class__") = some true) (h : errB K x fs = true) : ErrFa K x fs := by
  obtain ⟨h1, h⟩ := He.ba h
  obtain ⟨h2, h⟩ := He.ba h
  obtain ⟨h3, h⟩ := He.ba h
  obtain ⟨h4, h⟩ := He.ba h
  obtain ⟨h5, h⟩ := He.ba h
  obtain ⟨h6, h⟩ := He.ba h
  obtain ⟨h7, h⟩ := He.ba h
  obtain ⟨h8, h⟩ := He.ba h
  obtain ⟨h9, h⟩ := He.ba h
  obtain ⟨h10, h11⟩ := He.ba h
  have xf := xfB_ok h5
  exact ⟨⟨oexB_ok h1, He.eqO_ok h2, xf.exC, of_decide_eq_true h3, h4⟩, ⟨xf.ga, xf.gg, xf.exC, xf.hdC, He.eqO_ok h8, hn, ht, of_decide_eq_true h9⟩, He.eqO_ok h6, of_decide_eq_true h7, of_decide_eq_true h10, fun f hf => He.eqO_ok (List.all_eq_true.mp h11 f hf)⟩
/-- all that is asked for, but the defs and the tables -/
structure Facts (K : PySem.W.Frag) : Prop where
  free_ : (freeNames.all (fun x => He.eqO (PySem.W.nsIn K mainGlobals x) (some none))) = true
  gcd_ : (He.eqO (PySem.W.nsIn K mainGlobals "gcd") (some (some (.builtin "math.gcd")))) = true
  glo_ : (gloNames.all (fun x => He.eqO (PySem.W.nsIn K mainGlobals x) (some (some (.ref (He.ga K x)))))) = true
  dig_ : ((He.Fa.str "DIGITS" "0123456789").ok K) = true
  let_ : ((He.Fa.str "LETTERS" "abcdefghijklmnopqrstuvwxyz").ok K) = true
  s12_ : ((He.Fa.int "MOST_SIGNS" 12).ok K) = true
  mh_ : ((He.Fa.int "MOST_HANDS" 12).ok K) = true
  hn_ : (He.eqO (PySem.W.specialIn K (.builtin "object.__class__") "__get__") (some (some (.builtin "getset_descriptor.__get__")))) = true
  ht_ : (decide (PySem.W.takesIn K (.builtin "object.__class__") = some true)) = true
  cR_ : (clsB K "Ratio") = true
  cH_ : (clsB K "HandOver") = true
  cS_ : (clsB K "Swap") = true
  nRtop_ : ((He.Fa.noat "Ratio" "top").ok K) = true
  nRbottom_ : ((He.Fa.noat "Ratio" "bottom").ok K) = true
  nHgiver_ : ((He.Fa.noat "HandOver" "giver").ok K) = true
  nHtaker_ : ((He.Fa.noat "HandOver" "taker").ok K) = true
  nHcost_ : ((He.Fa.noat "HandOver" "cost").ok K) = true
  nHgain_ : ((He.Fa.noat "HandOver" "gain").ok K) = true
  nSstrangers_ : ((He.Fa.noat "Swap" "strangers").ok K) = true
  nShands_ : ((He.Fa.noat "Swap" "hands").ok K) = true
  nSnets_ : ((He.Fa.noat "Swap" "nets").ok K) = true
  noI_ : (decide (PySem.W.kitOne K (.ref (rC K)) (.type "int") = some false)) = true
  int_ : (decide (PySem.W.kitOne K (.type "int") (.ref (rC K)) = some false)) = true
  own_ : (ownPairs.all (fun p => ownB K p.1 p.2)) = true
  meth_ : ((He.Fa.meth "HandOver" "effect").ok K) = true
  methN_ : ((He.Fa.meth "Swap" "net").ok K) = true
  stop_ : (stopNames.all (fun x => decide (PySem.W.subIn K (.ref (He.ga K x)) (.type "StopIteration") = some false))) = true
  sfR_ : (PySem.W.selfFirst K (rC K)) = true
  nrR_ : (He.eqO (PySem.W.findIn K (.ref (rC K)) (dunderR Operator.Add.info.2)) (some none)) = true
  pr_ : (propB K (rC K) "sign") = true
  prs_ : ((["is_even", "is_gainful", "is_even_priced"] : List Str).all (fun m => propB K (sC K) m)) = true
  rdR_ : (PySem.W.readsIn K (rC K) (.type "type")) = true
  gaR_ : (He.eqO (PySem.W.specialIn K (.ref (rC K)) "__getattribute__") (some (some (.builtin "type.__getattribute__")))) = true
  sm_ : (He5.wrapB K (rC K) "staticmethod" "staticmethod.__get__" "of") = true
  rdS_ : (PySem.W.readsIn K (sC K) (.type "type")) = true
  gaS_ : (He.eqO (PySem.W.specialIn K (.ref (sC K)) "__getattribute__") (some (some (.builtin "type.__getattribute__")))) = true
  c6_ : (cvB K "MOST_STRANGERS" 6) = true
  c40_ : (cvB K "MOST_HANDS" 40) = true
  gi_ : (PySem.W.fnIn K (He.ma K (sC K) "__getitem__")) = true
  oddk_ : (oddT.all (fun t => decide (PySem.W.kitOne K (.type t) (.ref (sC K)) = some false))) = true
  eBadSwap_ : (errB K "BadSwap" ["part"]) = true
  eBadDone_ : (errB K "BadDone" ["part"]) = true
  eNoHand_ : (errB K "NoHand" ["number"]) = true
  eTwice_ : (errB K "Twice" ["value"]) = true
  eNoStranger_ : (errB K "NoStranger" ["name"]) = true
  eTooMany_ : (errB K "TooMany" ["what", "most"]) = true
  eUnlike_ : (errB K "Unlike" ["what"]) = true
  kt_ : (ktPairs.all (fun p => decide (PySem.W.kitOne K (.ref (He.ga K p.1)) (.ref (He.ga K p.2.1)) = some p.2.2))) = true
theorem facts_of {K : PySem.W.Frag} (h0 : factB0 K = true) (h1 : factB1 K = true) (h2 : factB2 K = true) (h3 : factB3 K = true) (h4 : factB4 K = true) (h5 : factB5 K = true) : Facts K := by
  obtain ⟨ffree, h0⟩ := He.ba h0
  obtain ⟨fgcd, h0⟩ := He.ba h0
  obtain ⟨fglo, h0⟩ := He.ba h0
  obtain ⟨fdig, h0⟩ := He.ba h0
  obtain ⟨flet, h0⟩ := He.ba h0
  obtain ⟨fs12, h0⟩ := He.ba h0
  obtain ⟨fmh, h0⟩ := He.ba h0
  obtain ⟨fhn, h0⟩ := He.ba h0
  have fht := h0
  obtain ⟨fcR, h1⟩ := He.ba h1
  obtain ⟨fcH, h1⟩ := He.ba h1
  obtain ⟨fcS, h1⟩ := He.ba h1
  obtain ⟨fnRtop, h1⟩ := He.ba h1
  obtain ⟨fnRbottom, h1⟩ := He.ba h1
  obtain ⟨fnHgiver, h1⟩ := He.ba h1
  obtain ⟨fnHtaker, h1⟩ := He.ba h1
  obtain ⟨fnHcost, h1⟩ := He.ba h1
  have fnHgain := h1
  obtain ⟨fnSstrangers, h2⟩ := He.ba h2
  obtain ⟨fnShands, h2⟩ := He.ba h2
  obtain ⟨fnSnets, h2⟩ := He.ba h2
  obtain ⟨fnoI, h2⟩ := He.ba h2
  obtain ⟨fint, h2⟩ := He.ba h2
  obtain ⟨fown, h2⟩ := He.ba h2
  obtain ⟨fmeth, h2⟩ := He.ba h2
  obtain ⟨fmethN, h2⟩ := He.ba h2
  have fstop := h2
  obtain ⟨fsfR, h3⟩ := He.ba h3
  obtain ⟨fnrR, h3⟩ := He.ba h3
  obtain ⟨fpr, h3⟩ := He.ba h3
  obtain ⟨fprs, h3⟩ := He.ba h3
  obtain ⟨frdR, h3⟩ := He.ba h3
  obtain ⟨fgaR, h3⟩ := He.ba h3
  obtain ⟨fsm, h3⟩ := He.ba h3
  obtain ⟨frdS, h3⟩ := He.ba h3
  have fgaS := h3
  obtain ⟨fc6, h4⟩ := He.ba h4
  obtain ⟨fc40, h4⟩ := He.ba h4
  obtain ⟨fgi, h4⟩ := He.ba h4
  obtain ⟨foddk, h4⟩ := He.ba h4
  obtain ⟨feBadSwap, h4⟩ := He.ba h4
  obtain ⟨feBadDone, h4⟩ := He.ba h4
  obtain ⟨feNoHand, h4⟩ := He.ba h4
  obtain ⟨feTwice, h4⟩ := He.ba h4
  have feNoStranger := h4
  obtain ⟨feTooMany, h5⟩ := He.ba h5
  obtain ⟨feUnlike, h5⟩ := He.ba h5
  have fkt := h5
  exact ⟨ffree, fgcd, fglo, fdig, flet, fs12, fmh, fhn, fht, fcR, fcH, fcS, fnRtop, fnRbottom, fnHgiver, fnHtaker, fnHcost, fnHgain, fnSstrangers, fnShands, fnSnets, fnoI, fint, fown, fmeth, fmethN, fstop, fsfR, fnrR, fpr, fprs, frdR, fgaR, fsm, frdS, fgaS, fc6, fc40, fgi, foddk, feBadSwap, feBadDone, feNoHand, feTwice, feNoStranger, feTooMany, feUnlike, fkt⟩
end K5

namespace K5
open PySem PySem.Spec PyProof.Rows L2 LamX K1 K18
/-- the tables that lambdas fill -/
abbrev TT (K : PySem.W.Frag) : List (Addr × Str) := [(tR K, qRef4)]
theorem defC_of {K : PySem.W.Frag} {x : Str} {st : Stmt} {fd : FuncData} (F : DefAt K x x st (He.ga K x) fd) : DefC K x x st (He.ga K x) fd (He.codeOf K (x, none)) := by
  obtain ⟨oc, od, dV, kV, doc, pm, an, cdv, ct, osl, e, lk, hcd, _, _⟩ := F.ex
  obtain ⟨c, rfl⟩ := He.codeIn_ref hcd
  have ec : He.codeOf K (x, none) = c := He.codeOf_eq (p := (x, none)) lk (by rw [e])
  rw [ec]
  exact ⟨oc, od, dV, kV, doc, pm, an, ct, osl, e, lk, hcd⟩
section
variable {P : Program} {w : World} {K : PySem.W.Frag} {mg : Str → Option Value} {base : Heap}
theorem law_in (X : K.In base) (N : base.Ns mainGlobals mg) (fa : Facts K) (sd : He5.SaysA [] fns K) (TB : TabB base mg (cR K) (tR K)) :
    ∃ fd, DefAt K "law" "law" sLaw (He.ga K "law") fd ∧ FnG P w K mg base CX0 16 (He.ga K "law") fd ["_law_script"] (spLaw K (TT K)) := by
  have fr : ∀ x ∈ freeNames, mg x = none := fun x hx => PySem.W.mg_none_of X N (He.eqO_ok (List.all_eq_true.mp fa.free_ x hx))
  have gl : ∀ x ∈ gloNames, mg x = some (.ref (He.ga K x)) := fun x hx => PySem.W.mg_of X N (He.eqO_ok (List.all_eq_true.mp fa.glo_ x hx))
  have G : Glob mg := ⟨fr _ (by simp [freeNames]), fr _ (by simp [freeNames]), fr _ (by simp [freeNames]), fr _ (by simp [freeNames]), fr _ (by simp [freeNames]), fr _ (by simp [freeNames]), fr _ (by simp [freeNames]), fr _ (by simp [freeNames]), fr _ (by simp [freeNames]), fr _ (by simp [freeNames]), fr _ (by simp [freeNames]), fr _ (by simp [freeNames]), fr _ (by simp [freeNames]), fr _ (by simp [freeNames]), fr _ (by simp [freeNames]), fr _ (by simp [freeNames]), fr _ (by simp [freeNames]), fr _ (by simp [freeNames]), fr _ (by simp [freeNames]), PySem.W.mg_of X N (He.eqO_ok fa.gcd_)⟩
  obtain ⟨t1, c1⟩ := He.str_ok X N fa.dig_
  obtain ⟨t2, c2⟩ := He.str_ok X N fa.let_
  obtain ⟨t4, c4⟩ := He.int_ok X N fa.s12_
  have CO : Consts mg := ⟨⟨_, c1, ⟨_, rfl⟩⟩, ⟨_, c2, ⟨_, rfl⟩⟩, ⟨_, c4, ⟨_, rfl⟩⟩⟩
  have hn := He.eqO_ok fa.hn_
  have ht := of_decide_eq_true fa.ht_
  have fR := clsB_ok hn ht fa.cR_
  have fH := clsB_ok hn ht fa.cH_
  have fS := clsB_ok hn ht fa.cS_
  have R : RatF K (rC K) := ⟨fR.f, He.noat_ok fa.nRtop_, He.noat_ok fa.nRbottom_, of_decide_eq_true fa.noI_, of_decide_eq_true fa.int_⟩
  have RH : HandF K (hC K) := ⟨fH.f, He.noat_ok fa.nHgiver_, He.noat_ok fa.nHtaker_, He.noat_ok fa.nHcost_, He.noat_ok fa.nHgain_⟩
  have RS : SwapF K (sC K) := ⟨fS.f, He.noat_ok fa.nSstrangers_, He.noat_ok fa.nShands_, He.noat_ok fa.nSnets_, ⟨fa.rdS_, He.eqO_ok fa.gaS_⟩, cvB_ok fa.c6_, cvB_ok fa.c40_⟩
  have gR : mg "Ratio" = some (.ref (rC K)) := gl _ (by simp [gloNames])
  have gH : mg "HandOver" = some (.ref (hC K)) := gl _ (by simp [gloNames])
  have gS : mg "Swap" = some (.ref (sC K)) := gl _ (by simp [gloNames])
  have ow : ∀ p ∈ ownPairs, OwnM K (He.ga K p.1) p.2 (He.ma K (He.ga K p.1) p.2) := fun p hp => ownB_ok (List.all_eq_true.mp fa.own_ p hp)
  have me : Meth K (hC K) "effect" (He.ma K (hC K) "effect") := He.meth_ok fa.meth_
  have meN : Meth K (sC K) "net" (He.ma K (sC K) "net") := He.meth_ok fa.methN_
  obtain ⟨t5, c5⟩ := He.int_ok X N fa.mh_
  have MO : MostH mg := ⟨⟨_, c5, ⟨_, rfl⟩⟩⟩
  have stp : ∀ x ∈ stopNames, PySem.W.subIn K (.ref (He.ga K x)) (.type "StopIteration") = some false := fun x hx => of_decide_eq_true (List.all_eq_true.mp fa.stop_ x hx)
  have NST : NStp K (He.ga K "BadSwap") (He.ga K "BadDone") (He.ga K "NoHand") (He.ga K "Twice") (He.ga K "TooMany") := ⟨stp _ (by simp [stopNames]), stp _ (by simp [stopNames]), stp _ (by simp [stopNames]), stp _ (by simp [stopNames]), stp _ (by simp [stopNames])⟩
  have prs : ∀ m ∈ (["is_even", "is_gainful", "is_even_priced"] : List Str), PropOf K (sC K) m (He.ma K (sC K) m) (gP K (sC K) m) := fun m hm => propB_ok (List.all_eq_true.mp fa.prs_ m hm)
  have u1 : ∀ p ∈ TT K, p.1 = tR K → p.2 = qRef4 := fun p hp e => by rw [List.mem_singleton.mp hp]
  have eBadSwap := errB_ok hn ht fa.eBadSwap_
  obtain ⟨iBadSwap, IBadSwap⟩ := sd.def_ 0
  replace IBadSwap : DefAt K "__init__" "BadSwap.__init__" (sIni 6) (He.ma K (He.ga K "BadSwap") "__init__") iBadSwap := IBadSwap
  have rBadSwap : ErrR P w K mg base (He.ga K "BadSwap") "BadSwap" ["part"] := ⟨gl _ (by simp [gloNames]), eBadSwap.o, ⟨_, iBadSwap, eBadSwap.i, eBadSwap.it, IBadSwap.bindsN (fun _ _ _ _ _ _ us hl => match us, hl with | [_, _], _ => rfl),
    init1 IBadSwap ⟨rfl, rfl, rfl, by decide +kernel, rfl, by decide +kernel, by decide +kernel⟩ rfl eBadSwap.o ⟨by decide, by decide⟩ (eBadSwap.nf "part" (by simp))⟩⟩
  have eBadDone := errB_ok hn ht fa.eBadDone_
  obtain ⟨iBadDone, IBadDone⟩ := sd.def_ 1
  replace IBadDone : DefAt K "__init__" "BadDone.__init__" (sIni 7) (He.ma K (He.ga K "BadDone") "__init__") iBadDone := IBadDone
  have rBadDone : ErrR P w K mg base (He.ga K "BadDone") "BadDone" ["part"] := ⟨gl _ (by simp [gloNames]), eBadDone.o, ⟨_, iBadDone, eBadDone.i, eBadDone.it, IBadDone.bindsN (fun _ _ _ _ _ _ us hl => match us, hl with | [_, _], _ => rfl),
    init1 IBadDone ⟨rfl, rfl, rfl, by decide +kernel, rfl, by decide +kernel, by decide +kernel⟩ rfl eBadDone.o ⟨by decide, by decide⟩ (eBadDone.nf "part" (by simp))⟩⟩
  have eNoHand := errB_ok hn ht fa.eNoHand_
  obtain ⟨iNoHand, INoHand⟩ := sd.def_ 2
  replace INoHand : DefAt K "__init__" "NoHand.__init__" (sIni 11) (He.ma K (He.ga K "NoHand") "__init__") iNoHand := INoHand
  have rNoHand : ErrR P w K mg base (He.ga K "NoHand") "NoHand" ["number"] := ⟨gl _ (by simp [gloNames]), eNoHand.o, ⟨_, iNoHand, eNoHand.i, eNoHand.it, INoHand.bindsN (fun _ _ _ _ _ _ us hl => match us, hl with | [_, _], _ => rfl),
    init1 INoHand ⟨rfl, rfl, rfl, by decide +kernel, rfl, by decide +kernel, by decide +kernel⟩ rfl eNoHand.o ⟨by decide, by decide⟩ (eNoHand.nf "number" (by simp))⟩⟩
  have eTwice := errB_ok hn ht fa.eTwice_
  obtain ⟨iTwice, ITwice⟩ := sd.def_ 3
  replace ITwice : DefAt K "__init__" "Twice.__init__" (sIni 12) (He.ma K (He.ga K "Twice") "__init__") iTwice := ITwice
  have rTwice : ErrR P w K mg base (He.ga K "Twice") "Twice" ["value"] := ⟨gl _ (by simp [gloNames]), eTwice.o, ⟨_, iTwice, eTwice.i, eTwice.it, ITwice.bindsN (fun _ _ _ _ _ _ us hl => match us, hl with | [_, _], _ => rfl),
    init1 ITwice ⟨rfl, rfl, rfl, by decide +kernel, rfl, by decide +kernel, by decide +kernel⟩ rfl eTwice.o ⟨by decide, by decide⟩ (eTwice.nf "value" (by simp))⟩⟩
  have eNoStranger := errB_ok hn ht fa.eNoStranger_
  obtain ⟨iNoStranger, INoStranger⟩ := sd.def_ 4
  replace INoStranger : DefAt K "__init__" "NoStranger.__init__" (sIni 10) (He.ma K (He.ga K "NoStranger") "__init__") iNoStranger := INoStranger
  have rNoStranger : ErrR P w K mg base (He.ga K "NoStranger") "NoStranger" ["name"] := ⟨gl _ (by simp [gloNames]), eNoStranger.o, ⟨_, iNoStranger, eNoStranger.i, eNoStranger.it, INoStranger.bindsN (fun _ _ _ _ _ _ us hl => match us, hl with | [_, _], _ => rfl),
    init1 INoStranger ⟨rfl, rfl, rfl, by decide +kernel, rfl, by decide +kernel, by decide +kernel⟩ rfl eNoStranger.o ⟨by decide, by decide⟩ (eNoStranger.nf "name" (by simp))⟩⟩
  have eTooMany := errB_ok hn ht fa.eTooMany_
  obtain ⟨iTooMany, ITooMany⟩ := sd.def_ 5
  replace ITooMany : DefAt K "__init__" "TooMany.__init__" (sIni 14) (He.ma K (He.ga K "TooMany") "__init__") iTooMany := ITooMany
  have rTooMany : ErrR P w K mg base (He.ga K "TooMany") "TooMany" ["what", "most"] := ⟨gl _ (by simp [gloNames]), eTooMany.o, ⟨_, iTooMany, eTooMany.i, eTooMany.it, ITooMany.bindsN (fun _ _ _ _ _ _ us hl => match us, hl with | [_, _, _], _ => rfl),
    init2 ITooMany ⟨rfl, rfl, rfl, by decide +kernel, rfl, by decide +kernel, by decide +kernel⟩ rfl eTooMany.o ⟨by decide, by decide⟩ ⟨by decide, by decide⟩ (eTooMany.nf "what" (by simp)) (eTooMany.nf "most" (by simp))⟩⟩
  have eUnlike := errB_ok hn ht fa.eUnlike_
  obtain ⟨iUnlike, IUnlike⟩ := sd.def_ 6
  replace IUnlike : DefAt K "__init__" "Unlike.__init__" (sIni 13) (He.ma K (He.ga K "Unlike") "__init__") iUnlike := IUnlike
  have rUnlike : ErrR P w K mg base (He.ga K "Unlike") "Unlike" ["what"] := ⟨gl _ (by simp [gloNames]), eUnlike.o, ⟨_, iUnlike, eUnlike.i, eUnlike.it, IUnlike.bindsN (fun _ _ _ _ _ _ us hl => match us, hl with | [_, _], _ => rfl),
    init1 IUnlike ⟨rfl, rfl, rfl, by decide +kernel, rfl, by decide +kernel, by decide +kernel⟩ rfl eUnlike.o ⟨by decide, by decide⟩ (eUnlike.nf "what" (by simp))⟩⟩
  have B : Errs P w K mg base (He.ga K "BadSwap") (He.ga K "BadDone") (He.ga K "NoHand") (He.ga K "Twice") (He.ga K "Unlike") (He.ga K "TooMany") := ⟨rBadSwap, rBadDone, rNoHand, rTwice, rUnlike, rTooMany⟩
  have kt : ∀ p ∈ ktPairs, PySem.W.kitOne K (.ref (He.ga K p.1)) (.ref (He.ga K p.2.1)) = some p.2.2 := fun p hp => of_decide_eq_true (List.all_eq_true.mp fa.kt_ p hp)
  have HD_ : Hrd K mg (He.ga K "LastError") (He.ga K "BadSwap") (He.ga K "BadDone") (He.ga K "NoHand") (He.ga K "Twice") (He.ga K "NoStranger") (He.ga K "TooMany") := ⟨gl _ (by simp [gloNames]), ⟨gl _ (by simp [gloNames]), eBadSwap.e, eBadSwap.le⟩, ⟨gl _ (by simp [gloNames]), eBadDone.e, eBadDone.le⟩, ⟨gl _ (by simp [gloNames]), eNoHand.e, eNoHand.le⟩, ⟨gl _ (by simp [gloNames]), eTwice.e, eTwice.le⟩, ⟨gl _ (by simp [gloNames]), eNoStranger.e, eNoStranger.le⟩, ⟨gl _ (by simp [gloNames]), eTooMany.e, eTooMany.le⟩,
    eBadSwap.nf "part" (by simp), eBadDone.nf "part" (by simp), eNoHand.nf "number" (by simp), eTwice.nf "value" (by simp), eNoStranger.nf "name" (by simp), eTooMany.nf "what" (by simp), eTooMany.nf "most" (by simp), kt ("BadSwap", "BadSwap", true) (by simp [ktPairs]), kt ("BadDone", "BadSwap", false) (by simp [ktPairs]), kt ("BadDone", "BadDone", true) (by simp [ktPairs]), kt ("NoHand", "BadSwap", false) (by simp [ktPairs]), kt ("NoHand", "BadDone", false) (by simp [ktPairs]), kt ("NoHand", "NoHand", true) (by simp [ktPairs]), kt ("Twice", "BadSwap", false) (by simp [ktPairs]), kt ("Twice", "BadDone", false) (by simp [ktPairs]), kt ("Twice", "NoHand", false) (by simp [ktPairs]), kt ("Twice", "Twice", true) (by simp [ktPairs]), kt ("NoStranger", "BadSwap", false) (by simp [ktPairs]), kt ("NoStranger", "BadDone", false) (by simp [ktPairs]), kt ("NoStranger", "NoHand", false) (by simp [ktPairs]), kt ("NoStranger", "Twice", false) (by simp [ktPairs]), kt ("NoStranger", "NoStranger", true) (by simp [ktPairs]), kt ("TooMany", "BadSwap", false) (by simp [ktPairs]), kt ("TooMany", "BadDone", false) (by simp [ktPairs]), kt ("TooMany", "NoHand", false) (by simp [ktPairs]), kt ("TooMany", "Twice", false) (by simp [ktPairs]), kt ("TooMany", "NoStranger", false) (by simp [ktPairs]), kt ("TooMany", "TooMany", true) (by simp [ktPairs])⟩
  have OD : OddF K (sC K) := ⟨fun t h => of_decide_eq_true (List.all_eq_true.mp fa.oddk_ t h)⟩
  obtain ⟨disuinteger, Fisuinteger⟩ := sd.def_ 22
  replace Fisuinteger : DefAt K "is_integer" "is_integer" sIsInt (He.ga K "is_integer") disuinteger := Fisuinteger
  have bisuinteger : Binds K disuinteger ["value"] [] := Fisuinteger.bindsN (fun _ _ _ _ _ _ us hl => match us, hl with | [_], _ => rfl)
  have gisuinteger : mg "is_integer" = some (.ref (He.ga K "is_integer")) := gl _ (by simp [gloNames])
  have HI : HasInt P w K mg base := ⟨⟨_, disuinteger, gisuinteger, Fisuinteger.kp, bisuinteger, ok_isInt G Fisuinteger⟩⟩
  obtain ⟨disulisted, Fisulisted⟩ := sd.def_ 24
  replace Fisulisted : DefAt K "is_listed" "is_listed" sListed (He.ga K "is_listed") disulisted := Fisulisted
  have bisulisted : Binds K disulisted ["value"] [] := Fisulisted.bindsN (fun _ _ _ _ _ _ us hl => match us, hl with | [_], _ => rfl)
  have gisulisted : mg "is_listed" = some (.ref (He.ga K "is_listed")) := gl _ (by simp [gloNames])
  have HLi : HasListed P w K mg base := ⟨⟨_, disulisted, gisulisted, Fisulisted.kp, bisulisted, ok_listed G Fisulisted⟩⟩
  obtain ⟨disuwithin, Fisuwithin⟩ := sd.def_ 23
  replace Fisuwithin : DefAt K "is_within" "is_within" sWithin (He.ga K "is_within") disuwithin := Fisuwithin
  have bisuwithin : Binds K disuwithin ["value", "least", "most"] [] := Fisuwithin.bindsN (fun _ _ _ _ _ _ us hl => match us, hl with | [_, _, _], _ => rfl)
  have gisuwithin : mg "is_within" = some (.ref (He.ga K "is_within")) := gl _ (by simp [gloNames])
  have HWi : HasWithin P w K mg base := ⟨⟨_, disuwithin, gisuwithin, Fisuwithin.kp, bisuwithin, ok_within HI Fisuwithin⟩⟩
  obtain ⟨dareuintegers, Fareuintegers⟩ := sd.def_ 25
  replace Fareuintegers : DefAt K "are_integers" "are_integers" sAreInts (He.ga K "are_integers") dareuintegers := Fareuintegers
  have bareuintegers : Binds K dareuintegers ["value"] [] := Fareuintegers.bindsN (fun _ _ _ _ _ _ us hl => match us, hl with | [_], _ => rfl)
  have gareuintegers : mg "are_integers" = some (.ref (He.ga K "are_integers")) := gl _ (by simp [gloNames])
  have HAI : HasAreInts P w K mg base := ⟨⟨_, dareuintegers, gareuintegers, Fareuintegers.kp, bareuintegers, ok_areInts G HI HLi Fareuintegers⟩⟩
  obtain ⟨dcheckuhand, Fcheckuhand⟩ := sd.def_ 31
  replace Fcheckuhand : DefAt K "check_hand" "check_hand" sHand (He.ga K "check_hand") dcheckuhand := Fcheckuhand
  have bcheckuhand : Binds K dcheckuhand ["many", "value"] [] := Fcheckuhand.bindsN (fun _ _ _ _ _ _ us hl => match us, hl with | [_, _], _ => rfl)
  have gcheckuhand : mg "check_hand" = some (.ref (He.ga K "check_hand")) := gl _ (by simp [gloNames])
  have HHa : HasHand P w K mg base (He.ga K "NoHand") := ⟨⟨_, dcheckuhand, gcheckuhand, Fcheckuhand.kp, bcheckuhand, ok_hand HWi B Fcheckuhand⟩⟩
  obtain ⟨dcheckunoneutwice, Fcheckunoneutwice⟩ := sd.def_ 28
  replace Fcheckunoneutwice : DefAt K "check_none_twice" "check_none_twice" sNoneTwice (He.ga K "check_none_twice") dcheckunoneutwice := Fcheckunoneutwice
  have bcheckunoneutwice : Binds K dcheckunoneutwice ["items"] [] := Fcheckunoneutwice.bindsN (fun _ _ _ _ _ _ us hl => match us, hl with | [_], _ => rfl)
  have gcheckunoneutwice : mg "check_none_twice" = some (.ref (He.ga K "check_none_twice")) := gl _ (by simp [gloNames])
  have HTw : HasTwice P w K mg base (He.ga K "Twice") := ⟨⟨_, dcheckunoneutwice, gcheckunoneutwice, Fcheckunoneutwice.kp, bcheckunoneutwice, ok_twice B Fcheckunoneutwice⟩⟩
  have HTS : HasTwiceS P w K mg base := ⟨⟨_, dcheckunoneutwice, gcheckunoneutwice, Fcheckunoneutwice.kp, bcheckunoneutwice, ok_twiceS Fcheckunoneutwice⟩⟩
  obtain ⟨dhandsutold, Fhandsutold⟩ := sd.def_ 29
  replace Fhandsutold : DefAt K "hands_told" "hands_told" sHands (He.ga K "hands_told") dhandsutold := Fhandsutold
  have bhandsutold : Binds K dhandsutold ["many", "value", "part"] [] := Fhandsutold.bindsN (fun _ _ _ _ _ _ us hl => match us, hl with | [_, _, _], _ => rfl)
  have ghandsutold : mg "hands_told" = some (.ref (He.ga K "hands_told")) := gl _ (by simp [gloNames])
  have HHs : HasHands P w K mg base (He.ga K "BadDone") (He.ga K "NoHand") (He.ga K "Twice") := ⟨⟨_, dhandsutold, ghandsutold, Fhandsutold.kp, bhandsutold, ok_hands G HAI HWi HTw B Fhandsutold⟩⟩
  obtain ⟨ddoneutold, Fdoneutold⟩ := sd.def_ 30
  replace Fdoneutold : DefAt K "done_told" "done_told" sDone (He.ga K "done_told") ddoneutold := Fdoneutold
  have bdoneutold : Binds K ddoneutold ["many", "value", "part"] [] := Fdoneutold.bindsN (fun _ _ _ _ _ _ us hl => match us, hl with | [_, _, _], _ => rfl)
  have gdoneutold : mg "done_told" = some (.ref (He.ga K "done_told")) := gl _ (by simp [gloNames])
  have HDo : HasDone P w K mg base (He.ga K "BadDone") (He.ga K "NoHand") (He.ga K "Twice") := ⟨⟨_, ddoneutold, gdoneutold, Fdoneutold.kp, bdoneutold, ok_done G HHs Fdoneutold⟩⟩
  obtain ⟨disuname, Fisuname⟩ := sd.def_ 26
  replace Fisuname : DefAt K "is_name" "is_name" sName (He.ga K "is_name") disuname := Fisuname
  have bisuname : Binds K disuname ["value"] [] := Fisuname.bindsN (fun _ _ _ _ _ _ us hl => match us, hl with | [_], _ => rfl)
  have gisuname : mg "is_name" = some (.ref (He.ga K "is_name")) := gl _ (by simp [gloNames])
  have HNa : HasName P w K mg base := ⟨⟨_, disuname, gisuname, Fisuname.kp, bisuname, ok_name G CO Fisuname⟩⟩
  obtain ⟨dareunames, Fareunames⟩ := sd.def_ 27
  replace Fareunames : DefAt K "are_names" "are_names" sAreNames (He.ga K "are_names") dareunames := Fareunames
  have bareunames : Binds K dareunames ["value"] [] := Fareunames.bindsN (fun _ _ _ _ _ _ us hl => match us, hl with | [_], _ => rfl)
  have gareunames : mg "are_names" = some (.ref (He.ga K "are_names")) := gl _ (by simp [gloNames])
  have HNs : HasNames P w K mg base := ⟨⟨_, dareunames, gareunames, Fareunames.kp, bareunames, ok_names G HNa HLi Fareunames⟩⟩
  have HNA : HasNameA P w K mg base := ⟨⟨_, disuname, gisuname, Fisuname.kp, bisuname, ok_nameA G CO Fisuname⟩⟩
  obtain ⟨d0, F0⟩ := sd.def_ 12
  replace F0 : FunD K "__init__" "Ratio.__init__" (defArgs sRInit) (defBody sRInit) (defScope sRInit) [.int 1] [] (He.ma K (rC K) "__init__") d0 := F0
  have okI : FnOk P w K mg base CX0 2 (He.ma K (rC K) "__init__") d0 ["self", "top", "bottom"] (spRI (rC K)) := ok_rinit G R HI F0
  obtain ⟨ds0, v0, bi0⟩ : ∃ ds, Vals [] ds ∧ Binds K d0 ["self", "top", "bottom"] ds := F0.binds1 3 1 (List.cons_ne_nil _ _) rfl fun T kV doc pm an cdv ct us its hu hi => match us, its, hu, hi with
    | [_, _, _], [_], _, _ => ⟨_, rfl, rfl⟩
  obtain ⟨ds1, v1, bi1⟩ : ∃ ds, Vals [.int 1] ds ∧ Binds K d0 ["self", "top", "bottom"] ds := F0.binds1 2 0 (List.cons_ne_nil _ _) rfl fun T kV doc pm an cdv ct us its hu hi => match us, its, hu, hi with
    | [_, _], [_], _, _ => ⟨_, rfl, rfl⟩
  cases v0
  have MR : MkR P w K mg base (rC K) := ⟨gR, _, d0, ds1, fR.mkc, okI, bi0, v1, bi1⟩
  obtain ⟨duright, Furight⟩ := sd.def_ 32
  replace Furight : DefAt K "_right" "_right" sRight (He.ga K "_right") duright := Furight
  have buright : Binds K duright ["other"] [] := Furight.bindsN (fun _ _ _ _ _ _ us hl => match us, hl with | [_], _ => rfl)
  have guright : mg "_right" = some (.ref (He.ga K "_right")) := gl _ (by simp [gloNames])
  have HR : HasRight P w K mg base (He.ga K "Ratio") := ⟨⟨_, duright, guright, Furight.kp, buright, ok_right G R HI MR Furight⟩⟩
  obtain ⟨disuratio, Fisuratio⟩ := sd.def_ 33
  replace Fisuratio : DefAt K "is_ratio" "is_ratio" sIsRatio (He.ga K "is_ratio") disuratio := Fisuratio
  have bisuratio : Binds K disuratio ["value"] [] := Fisuratio.bindsN (fun _ _ _ _ _ _ us hl => match us, hl with | [_], _ => rfl)
  have gisuratio : mg "is_ratio" = some (.ref (He.ga K "is_ratio")) := gl _ (by simp [gloNames])
  have HQ : HasIsR P w K mg base (He.ga K "Ratio") := ⟨⟨_, disuratio, gisuratio, Fisuratio.kp, bisuratio, ok_isR G R HI gR Fisuratio⟩⟩
  have CR : ClX.CRead K (rC K) (.type "type") := ⟨fa.rdR_, He.eqO_ok fa.gaR_⟩
  obtain ⟨d5, F5⟩ := sd.def_ 11
  replace F5 : DefAt K "of" "Ratio.of" sROf (He5.wf K (rC K) "staticmethod" "of") d5 := F5
  have SM : SMet K (rC K) "of" (He5.wf K (rC K) "staticmethod" "of") := ⟨⟨_, (He5.wrapB_ok fa.sm_).1, (He5.wrapB_ok fa.sm_).2⟩, F5.kp⟩
  obtain ⟨d2, F2⟩ := sd.def_ 7
  replace F2 : DefAt K "sign" "Ratio.sign" sRSign (gP K (rC K) "sign") d2 := F2
  have RM : RatM P w K mg base (rC K) := ⟨gR, CR, ⟨_, d5, SM, F5.bindsN (fun _ _ _ _ _ _ us hl => match us, hl with | [_], _ => rfl), ok_of HR HQ F5⟩, ⟨_, _, d2, propB_ok fa.pr_, F2.bindsN (fun _ _ _ _ _ _ us hl => match us, hl with | [_], _ => rfl), ok_sign R F2⟩⟩
  obtain ⟨mRuuadduu, MRuuadduu⟩ := sd.def_ 13
  replace MRuuadduu : DefAt K "__add__" "Ratio.__add__" sRAdd (He.ma K (He.ga K "Ratio") "__add__") mRuuadduu := MRuuadduu
  have qRuuadduu : Binds K mRuuadduu ["self", "other"] [] := MRuuadduu.bindsN (fun _ _ _ _ _ _ us hl => match us, hl with | [_, _], _ => rfl)
  obtain ⟨mRuuneguu, MRuuneguu⟩ := sd.def_ 14
  replace MRuuneguu : DefAt K "__neg__" "Ratio.__neg__" sRNeg (He.ma K (He.ga K "Ratio") "__neg__") mRuuneguu := MRuuneguu
  have qRuuneguu : Binds K mRuuneguu ["self"] [] := MRuuneguu.bindsN (fun _ _ _ _ _ _ us hl => match us, hl with | [_], _ => rfl)
  obtain ⟨mRuuequu, MRuuequu⟩ := sd.def_ 15
  replace MRuuequu : DefAt K "__eq__" "Ratio.__eq__" sREq (He.ma K (He.ga K "Ratio") "__eq__") mRuuequu := MRuuequu
  have qRuuequu : Binds K mRuuequu ["self", "other"] [] := MRuuequu.bindsN (fun _ _ _ _ _ _ us hl => match us, hl with | [_, _], _ => rfl)
  have RA : AddO P w K mg base (rC K) CX0 5 (spSum (rC K)) := ⟨⟨_, mRuuadduu, ow ("Ratio", "__add__") (by simp [ownPairs]), qRuuadduu, ok_add R HR MR MRuuadduu⟩, fa.sfR_, He.eqO_ok fa.nrR_⟩
  have RN : Own P w K mg base (rC K) CX0 4 "__neg__" ["self"] (spNeg (rC K)) := ⟨_, mRuuneguu, ow ("Ratio", "__neg__") (by simp [ownPairs]), qRuuneguu, ok_neg R MR MRuuneguu⟩
  have RE : EqO P w K mg base (rC K) 1 (spREq (rC K)) := ⟨⟨_, mRuuequu, ow ("Ratio", "__eq__") (by simp [ownPairs]), qRuuequu, ok_req G R gR MRuuequu⟩, fR.nf⟩
  obtain ⟨disuamount, Fisuamount⟩ := sd.def_ 34
  replace Fisuamount : DefAt K "is_amount" "is_amount" sIsAmount (He.ga K "is_amount") disuamount := Fisuamount
  have bisuamount : Binds K disuamount ["value"] [] := Fisuamount.bindsN (fun _ _ _ _ _ _ us hl => match us, hl with | [_], _ => rfl)
  have gisuamount : mg "is_amount" = some (.ref (He.ga K "is_amount")) := gl _ (by simp [gloNames])
  have HAm : HasAmount P w K mg base (He.ga K "Ratio") := ⟨⟨_, disuamount, gisuamount, Fisuamount.kp, bisuamount, ok_amount R HQ RM Fisuamount⟩⟩
  obtain ⟨duareuratios, Fuareuratios⟩ := sd.def_ 35
  replace Fuareuratios : DefAt K "_are_ratios" "_are_ratios" sAreRatios (He.ga K "_are_ratios") duareuratios := Fuareuratios
  have buareuratios : Binds K duareuratios ["value"] [] := Fuareuratios.bindsN (fun _ _ _ _ _ _ us hl => match us, hl with | [_], _ => rfl)
  have guareuratios : mg "_are_ratios" = some (.ref (He.ga K "_are_ratios")) := gl _ (by simp [gloNames])
  have HAr : HasAre P w K mg base (He.ga K "Ratio") := ⟨⟨_, duareuratios, guareuratios, Fuareuratios.kp, buareuratios, ok_are G HLi HQ Fuareuratios⟩⟩
  obtain ⟨dadded, Fadded⟩ := sd.def_ 36
  replace Fadded : DefAt K "added" "added" sAdded (He.ga K "added") dadded := Fadded
  have badded : Binds K dadded ["ratios"] [] := Fadded.bindsN (fun _ _ _ _ _ _ us hl => match us, hl with | [_], _ => rfl)
  have gadded : mg "added" = some (.ref (He.ga K "added")) := gl _ (by simp [gloNames])
  have HAd : HasAdded P w K mg base (He.ga K "Ratio") := ⟨⟨_, dadded, gadded, Fadded.kp, badded, ok_added R HAr MR RA Fadded⟩⟩
  obtain ⟨mHuuinituu, MHuuinituu⟩ := sd.def_ 16
  replace MHuuinituu : DefAt K "__init__" "HandOver.__init__" sHInit (He.ma K (He.ga K "HandOver") "__init__") mHuuinituu := MHuuinituu
  have qHuuinituu : Binds K mHuuinituu ["self", "giver", "taker", "cost", "gain"] [] := MHuuinituu.bindsN (fun _ _ _ _ _ _ us hl => match us, hl with | [_, _, _, _, _], _ => rfl)
  obtain ⟨mHeffect, MHeffect⟩ := sd.def_ 17
  replace MHeffect : DefAt K "effect" "HandOver.effect" sHEff (He.ma K (He.ga K "HandOver") "effect") mHeffect := MHeffect
  have qHeffect : Binds K mHeffect ["self", "name"] [] := MHeffect.bindsN (fun _ _ _ _ _ _ us hl => match us, hl with | [_, _], _ => rfl)
  have MH : MkH P w K mg base (rC K) (hC K) := ⟨gH, ⟨_, mHuuinituu, fH.mkc, ok_hinit RH HNa HAm RM MHuuinituu, qHuuinituu⟩⟩
  have EM : EffM P w K mg base (rC K) (hC K) := ⟨⟨_, mHeffect, me, qHeffect, ok_heff RH RN MR MHeffect⟩⟩
  obtain ⟨ducheckuparties, Fucheckuparties⟩ := sd.def_ 37
  replace Fucheckuparties : DefAt K "_check_parties" "_check_parties" sParties (He.ga K "_check_parties") ducheckuparties := Fucheckuparties
  have bucheckuparties : Binds K ducheckuparties ["hand", "strangers"] [] := Fucheckuparties.bindsN (fun _ _ _ _ _ _ us hl => match us, hl with | [_, _], _ => rfl)
  have gucheckuparties : mg "_check_parties" = some (.ref (He.ga K "_check_parties")) := gl _ (by simp [gloNames])
  have HPa : HasParties P w K mg base (He.ga K "Ratio") (He.ga K "HandOver") := ⟨⟨_, ducheckuparties, gucheckuparties, Fucheckuparties.kp, bucheckuparties, ok_parties RH Fucheckuparties⟩⟩
  obtain ⟨dunetuof, Funetuof⟩ := sd.def_ 38
  replace Funetuof : DefAt K "_net_of" "_net_of" sNetOf (He.ga K "_net_of") dunetuof := Funetuof
  have bunetuof : Binds K dunetuof ["hands", "name"] [] := Funetuof.bindsN (fun _ _ _ _ _ _ us hl => match us, hl with | [_, _], _ => rfl)
  have gunetuof : mg "_net_of" = some (.ref (He.ga K "_net_of")) := gl _ (by simp [gloNames])
  have HNo : HasNetOf P w K mg base (He.ga K "Ratio") (He.ga K "HandOver") := ⟨⟨_, dunetuof, gunetuof, Funetuof.kp, bunetuof, ok_netOf RH EM HAd Funetuof⟩⟩
  obtain ⟨mSuuinituu, MSuuinituu⟩ := sd.def_ 18
  replace MSuuinituu : DefAt K "__init__" "Swap.__init__" sSInit (He.ma K (He.ga K "Swap") "__init__") mSuuinituu := MSuuinituu
  have qSuuinituu : Binds K mSuuinituu ["self", "strangers", "hands"] [] := MSuuinituu.bindsN (fun _ _ _ _ _ _ us hl => match us, hl with | [_, _, _], _ => rfl)
  obtain ⟨mSuulenuu, MSuulenuu⟩ := sd.def_ 19
  replace MSuulenuu : DefAt K "__len__" "Swap.__len__" sSLen (He.ma K (He.ga K "Swap") "__len__") mSuulenuu := MSuulenuu
  have qSuulenuu : Binds K mSuulenuu ["self"] [] := MSuulenuu.bindsN (fun _ _ _ _ _ _ us hl => match us, hl with | [_], _ => rfl)
  obtain ⟨mSuugetitemuu, MSuugetitemuu⟩ := sd.def_ 20
  replace MSuugetitemuu : DefAt K "__getitem__" "Swap.__getitem__" sSItem (He.ma K (He.ga K "Swap") "__getitem__") mSuugetitemuu := MSuugetitemuu
  have qSuugetitemuu : Binds K mSuugetitemuu ["self", "at"] [] := MSuugetitemuu.bindsN (fun _ _ _ _ _ _ us hl => match us, hl with | [_, _], _ => rfl)
  obtain ⟨mSnet, MSnet⟩ := sd.def_ 21
  replace MSnet : DefAt K "net" "Swap.net" sSNet (He.ma K (He.ga K "Swap") "net") mSnet := MSnet
  have qSnet : Binds K mSnet ["self", "name"] [] := MSnet.bindsN (fun _ _ _ _ _ _ us hl => match us, hl with | [_, _], _ => rfl)
  have MS : MkS P w K mg base (rC K) (hC K) (sC K) (He.ga K "TooMany") := ⟨gS, ⟨_, mSuuinituu, fS.mkc, ok_sinit G RS RH gS gH HNs HLi HTS HPa HNo B MSuuinituu, qSuuinituu⟩⟩
  have LO : LenO P w K mg base (rC K) (hC K) (sC K) := ⟨⟨_, mSuulenuu, ow ("Swap", "__len__") (by simp [ownPairs]), qSuulenuu, ok_slen G RS MSuulenuu⟩⟩
  have IT : ItemO P w K mg base (rC K) (hC K) (sC K) := ⟨⟨_, mSuugetitemuu, ow ("Swap", "__getitem__") (by simp [ownPairs]), fa.gi_, qSuugetitemuu, ok_sitem G RS HHa MSuugetitemuu⟩⟩
  obtain ⟨dcheckuswap, Fcheckuswap⟩ := sd.def_ 39
  replace Fcheckuswap : DefAt K "check_swap" "check_swap" sCheckSwap (He.ga K "check_swap") dcheckuswap := Fcheckuswap
  have bcheckuswap : Binds K dcheckuswap ["swap"] [] := Fcheckuswap.bindsN (fun _ _ _ _ _ _ us hl => match us, hl with | [_], _ => rfl)
  have gcheckuswap : mg "check_swap" = some (.ref (He.ga K "check_swap")) := gl _ (by simp [gloNames])
  have HCk : HasCheck P w K mg base (He.ga K "Ratio") (He.ga K "HandOver") (He.ga K "Swap") (He.ga K "BadSwap") := ⟨⟨_, dcheckuswap, gcheckuswap, Fcheckuswap.kp, bcheckuswap, ok_check G RS gS B Fcheckuswap⟩⟩
  obtain ⟨ddoneuset, Fdoneuset⟩ := sd.def_ 43
  replace Fdoneuset : DefAt K "done_set" "done_set" sDoneSet (He.ga K "done_set") ddoneuset := Fdoneuset
  have bdoneuset : Binds K ddoneuset ["swap", "done"] [] := Fdoneuset.bindsN (fun _ _ _ _ _ _ us hl => match us, hl with | [_, _], _ => rfl)
  have gdoneuset : mg "done_set" = some (.ref (He.ga K "done_set")) := gl _ (by simp [gloNames])
  have HDs : HasDoneSet P w K mg base (He.ga K "Ratio") (He.ga K "HandOver") (He.ga K "Swap") (He.ga K "BadSwap") (He.ga K "BadDone") (He.ga K "NoHand") (He.ga K "Twice") := ⟨⟨_, ddoneuset, gdoneuset, Fdoneuset.kp, bdoneuset, ok_doneSet G HCk HDo LO Fdoneuset⟩⟩
  obtain ⟨dueffectsuon, Fueffectsuon⟩ := sd.def_ 51
  replace Fueffectsuon : DefAt K "_effects_on" "_effects_on" sEffects (He.ga K "_effects_on") dueffectsuon := Fueffectsuon
  have bueffectsuon : Binds K dueffectsuon ["swap", "numbers", "name"] [] := Fueffectsuon.bindsN (fun _ _ _ _ _ _ us hl => match us, hl with | [_, _, _], _ => rfl)
  have gueffectsuon : mg "_effects_on" = some (.ref (He.ga K "_effects_on")) := gl _ (by simp [gloNames])
  have HEf : HasEffects P w K mg base (He.ga K "Ratio") (He.ga K "HandOver") (He.ga K "Swap") := ⟨⟨_, dueffectsuon, gueffectsuon, Fueffectsuon.kp, bueffectsuon, ok_effects RH IT EM HAd Fueffectsuon⟩⟩
  obtain ⟨dcheckustranger, Fcheckustranger⟩ := sd.def_ 40
  replace Fcheckustranger : DefAt K "check_stranger" "check_stranger" sStranger (He.ga K "check_stranger") dcheckustranger := Fcheckustranger
  have bcheckustranger : Binds K dcheckustranger ["swap", "name"] [] := Fcheckustranger.bindsN (fun _ _ _ _ _ _ us hl => match us, hl with | [_, _], _ => rfl)
  have gcheckustranger : mg "check_stranger" = some (.ref (He.ga K "check_stranger")) := gl _ (by simp [gloNames])
  have HSt : HasStranger P w K mg base (He.ga K "Ratio") (He.ga K "HandOver") (He.ga K "Swap") (He.ga K "NoStranger") := ⟨⟨_, dcheckustranger, gcheckustranger, Fcheckustranger.kp, bcheckustranger, ok_stranger RS HNA rNoStranger Fcheckustranger⟩⟩
  obtain ⟨dunextunumber, Funextunumber⟩ := sd.def_ 42
  replace Funextunumber : DefAt K "_next_number" "_next_number" sNextNo (He.ga K "_next_number") dunextunumber := Funextunumber
  have bunextunumber : Binds K dunextunumber ["done"] [] := Funextunumber.bindsN (fun _ _ _ _ _ _ us hl => match us, hl with | [_], _ => rfl)
  have gunextunumber : mg "_next_number" = some (.ref (He.ga K "_next_number")) := gl _ (by simp [gloNames])
  have HNx : HasNext P w K mg base := ⟨⟨_, dunextunumber, gunextunumber, Funextunumber.kp, bunextunumber, ok_next Funextunumber⟩⟩
  obtain ⟨dsetsuinuorder, Fsetsuinuorder⟩ := sd.def_ 41
  replace Fsetsuinuorder : DefAt K "sets_in_order" "sets_in_order" sSetsIn (He.ga K "sets_in_order") dsetsuinuorder := Fsetsuinuorder
  have bsetsuinuorder : Binds K dsetsuinuorder ["many"] [] := Fsetsuinuorder.bindsN (fun _ _ _ _ _ _ us hl => match us, hl with | [_], _ => rfl)
  have gsetsuinuorder : mg "sets_in_order" = some (.ref (He.ga K "sets_in_order")) := gl _ (by simp [gloNames])
  have HSi : HasSetsIn P w K mg base := ⟨⟨_, dsetsuinuorder, gsetsuinuorder, Fsetsuinuorder.kp, bsetsuinuorder, ok_setsIn G HNx Fsetsuinuorder⟩⟩
  obtain ⟨drest, Frest⟩ := sd.def_ 44
  replace Frest : DefAt K "rest" "rest" sRest (He.ga K "rest") drest := Frest
  have brest : Binds K drest ["swap", "done"] [] := Frest.bindsN (fun _ _ _ _ _ _ us hl => match us, hl with | [_, _], _ => rfl)
  have grest : mg "rest" = some (.ref (He.ga K "rest")) := gl _ (by simp [gloNames])
  have HRe : HasRest P w K mg base (He.ga K "Ratio") (He.ga K "HandOver") (He.ga K "Swap") (He.ga K "BadSwap") (He.ga K "BadDone") (He.ga K "NoHand") (He.ga K "Twice") := ⟨⟨_, drest, grest, Frest.kp, brest, ok_rest G HDs LO Frest⟩⟩
  obtain ⟨dsums, Fsums⟩ := sd.def_ 45
  replace Fsums : DefAt K "sums" "sums" sSums (He.ga K "sums") dsums := Fsums
  have bsums : Binds K dsums ["swap", "done"] [] := Fsums.bindsN (fun _ _ _ _ _ _ us hl => match us, hl with | [_, _], _ => rfl)
  have gsums : mg "sums" = some (.ref (He.ga K "sums")) := gl _ (by simp [gloNames])
  have HSu : HasSumsX P w K mg base (He.ga K "Ratio") (He.ga K "HandOver") (He.ga K "Swap") (He.ga K "BadSwap") (He.ga K "BadDone") (He.ga K "NoHand") (He.ga K "Twice") := ⟨⟨_, dsums, gsums, Fsums.kp, bsums, ok_sumsX G RS HDs HEf Fsums⟩⟩
  obtain ⟨dsumuof, Fsumuof⟩ := sd.def_ 46
  replace Fsumuof : DefAt K "sum_of" "sum_of" sSumOf (He.ga K "sum_of") dsumuof := Fsumuof
  have bsumuof : Binds K dsumuof ["swap", "done", "name"] [] := Fsumuof.bindsN (fun _ _ _ _ _ _ us hl => match us, hl with | [_, _, _], _ => rfl)
  have gsumuof : mg "sum_of" = some (.ref (He.ga K "sum_of")) := gl _ (by simp [gloNames])
  have HOf : HasOf "sum_of" P w K mg base (He.ga K "Ratio") (He.ga K "HandOver") (He.ga K "Swap") (He.ga K "BadSwap") (He.ga K "BadDone") (He.ga K "NoHand") (He.ga K "Twice") (He.ga K "NoStranger") effs := ⟨⟨_, dsumuof, gsumuof, Fsumuof.kp, bsumuof, ok_sumOf HDs HSt HEf Fsumuof⟩⟩
  obtain ⟨dgave, Fgave⟩ := sd.def_ 47
  replace Fgave : DefAt K "gave" "gave" sGave (He.ga K "gave") dgave := Fgave
  have bgave : Binds K dgave ["swap", "done", "name"] [] := Fgave.bindsN (fun _ _ _ _ _ _ us hl => match us, hl with | [_, _, _], _ => rfl)
  have ggave : mg "gave" = some (.ref (He.ga K "gave")) := gl _ (by simp [gloNames])
  have HGa : HasOf "gave" P w K mg base (He.ga K "Ratio") (He.ga K "HandOver") (He.ga K "Swap") (He.ga K "BadSwap") (He.ga K "BadDone") (He.ga K "NoHand") (He.ga K "Twice") (He.ga K "NoStranger") gaveF := ⟨⟨_, dgave, ggave, Fgave.kp, bgave, ok_gave RH IT HDs HSt HAd Fgave⟩⟩
  obtain ⟨dtook, Ftook⟩ := sd.def_ 48
  replace Ftook : DefAt K "took" "took" sTook (He.ga K "took") dtook := Ftook
  have btook : Binds K dtook ["swap", "done", "name"] [] := Ftook.bindsN (fun _ _ _ _ _ _ us hl => match us, hl with | [_, _, _], _ => rfl)
  have gtook : mg "took" = some (.ref (He.ga K "took")) := gl _ (by simp [gloNames])
  have HTo : HasOf "took" P w K mg base (He.ga K "Ratio") (He.ga K "HandOver") (He.ga K "Swap") (He.ga K "BadSwap") (He.ga K "BadDone") (He.ga K "NoHand") (He.ga K "Twice") (He.ga K "NoStranger") tookF := ⟨⟨_, dtook, gtook, Ftook.kp, btook, ok_took RH IT HDs HSt HAd Ftook⟩⟩
  obtain ⟨dulineubehind, Fulineubehind⟩ := sd.def_ 52
  replace Fulineubehind : DefAt K "_line_behind" "_line_behind" sLineB (He.ga K "_line_behind") dulineubehind := Fulineubehind
  have bulineubehind : Binds K dulineubehind ["swap", "line", "number"] [] := Fulineubehind.bindsN (fun _ _ _ _ _ _ us hl => match us, hl with | [_, _, _], _ => rfl)
  have gulineubehind : mg "_line_behind" = some (.ref (He.ga K "_line_behind")) := gl _ (by simp [gloNames])
  have HLB : HasLineB P w K mg base (He.ga K "Ratio") (He.ga K "HandOver") (He.ga K "Swap") := ⟨⟨_, dulineubehind, gulineubehind, Fulineubehind.kp, bulineubehind, ok_lineB G RS RH IT EM RA Fulineubehind⟩⟩
  obtain ⟨dalong, Falong⟩ := sd.def_ 49
  replace Falong : DefAt K "along" "along" sAlong (He.ga K "along") dalong := Falong
  have balong : Binds K dalong ["swap", "numbers"] [] := Falong.bindsN (fun _ _ _ _ _ _ us hl => match us, hl with | [_, _], _ => rfl)
  have galong : mg "along" = some (.ref (He.ga K "along")) := gl _ (by simp [gloNames])
  have HAl : HasG P w K mg base 8 "along" ["swap", "numbers"] (spAlong K (He.ga K "Ratio") (He.ga K "HandOver") (He.ga K "Swap") (He.ga K "BadSwap") (He.ga K "BadDone") (He.ga K "NoHand") (He.ga K "Twice")) := ⟨⟨_, dalong, galong, Falong.kp, balong, ok_along G RS MR HCk HHs LO HLB Falong⟩⟩
  obtain ⟨ddoneusets, Fdoneusets⟩ := sd.def_ 50
  replace Fdoneusets : DefAt K "done_sets" "done_sets" sDoneSets (He.ga K "done_sets") ddoneusets := Fdoneusets
  have bdoneusets : Binds K ddoneusets ["swap"] [] := Fdoneusets.bindsN (fun _ _ _ _ _ _ us hl => match us, hl with | [_], _ => rfl)
  have gdoneusets : mg "done_sets" = some (.ref (He.ga K "done_sets")) := gl _ (by simp [gloNames])
  have HDS : HasG P w K mg base 4 "done_sets" ["swap"] (spDoneSets K (He.ga K "Ratio") (He.ga K "HandOver") (He.ga K "Swap") (He.ga K "BadSwap") (He.ga K "TooMany")) := ⟨⟨_, ddoneusets, gdoneusets, Fdoneusets.kp, bdoneusets, ok_doneSets G MO rTooMany HCk LO HSi Fdoneusets⟩⟩
  have SGP : SignP P w K mg base (rC K) := ⟨⟨_, _, d2, propB_ok fa.pr_, F2.bindsN (fun _ _ _ _ _ _ us hl => match us, hl with | [_], _ => rfl), ok_sign R F2⟩⟩
  obtain ⟨z0, Z0⟩ := sd.def_ 8
  replace Z0 : DefAt K "is_even" "Swap.is_even" sSEven (gP K (sC K) "is_even") z0 := Z0
  have PP0 : PropS P w K mg base (sC K) "is_even" (spAllNets (He.ga K "Ratio") (He.ga K "HandOver") (He.ga K "Swap") is0) := ⟨_, _, z0, prs "is_even" (by simp), Z0.bindsN (fun _ _ _ _ _ _ us hl => match us, hl with | [_], _ => rfl), ok_even G RS R SGP Z0⟩
  obtain ⟨z1, Z1⟩ := sd.def_ 9
  replace Z1 : DefAt K "is_gainful" "Swap.is_gainful" sSGain (gP K (sC K) "is_gainful") z1 := Z1
  have PP1 : PropS P w K mg base (sC K) "is_gainful" (spAllNets (He.ga K "Ratio") (He.ga K "HandOver") (He.ga K "Swap") ge0) := ⟨_, _, z1, prs "is_gainful" (by simp), Z1.bindsN (fun _ _ _ _ _ _ us hl => match us, hl with | [_], _ => rfl), ok_gain G RS R SGP Z1⟩
  obtain ⟨z2, Z2⟩ := sd.def_ 10
  replace Z2 : DefAt K "is_even_priced" "Swap.is_even_priced" sSPriced (gP K (sC K) "is_even_priced") z2 := Z2
  have PP2 : PropS P w K mg base (sC K) "is_even_priced" (spPriced (He.ga K "Ratio") (He.ga K "HandOver") (He.ga K "Swap")) := ⟨_, _, z2, prs "is_even_priced" (by simp), Z2.bindsN (fun _ _ _ _ _ _ us hl => match us, hl with | [_], _ => rfl), ok_priced G RS RH R RE Z2⟩
  have NM : NetM P w K mg base (He.ga K "Ratio") (He.ga K "HandOver") (He.ga K "Swap") (He.ga K "NoStranger") := ⟨⟨_, mSnet, meN, qSnet, ok_net RS HSt MSnet⟩⟩
  obtain ⟨dulawupen, Fulawupen⟩ := sd.def_ 53
  replace Fulawupen : DefAt K "_law_pen" "_law_pen" sPen (He.ga K "_law_pen") dulawupen := Fulawupen
  have bulawupen : Binds K dulawupen ["_law_script"] [] := Fulawupen.bindsN (fun _ _ _ _ _ _ us hl => match us, hl with | [_], _ => rfl)
  have gulawupen : mg "_law_pen" = some (.ref (He.ga K "_law_pen")) := gl _ (by simp [gloNames])
  have HPen : Has P w K mg base CX0 1 "_law_pen" ["_law_script"] (spPen K) := ⟨⟨_, dulawupen, gulawupen, Fulawupen.kp, bulawupen, ok_pen G Fulawupen⟩⟩
  obtain ⟨dulawudraw, Fulawudraw⟩ := sd.def_ 54
  replace Fulawudraw : DefAt K "_law_draw" "_law_draw" sDraw (He.ga K "_law_draw") dulawudraw := Fulawudraw
  have bulawudraw : Binds K dulawudraw ["_law_pen_here", "_law_many"] [] := Fulawudraw.bindsN (fun _ _ _ _ _ _ us hl => match us, hl with | [_, _], _ => rfl)
  have gulawudraw : mg "_law_draw" = some (.ref (He.ga K "_law_draw")) := gl _ (by simp [gloNames])
  have HT : HasDraw P w K mg base := ⟨⟨_, dulawudraw, gulawudraw, Fulawudraw.kp, bulawudraw, ok_draw G Fulawudraw⟩⟩
  obtain ⟨dulawupick, Fulawupick⟩ := sd.def_ 55
  replace Fulawupick : DefAt K "_law_pick" "_law_pick" sPick (He.ga K "_law_pick") dulawupick := Fulawupick
  have bulawupick : Binds K dulawupick ["_law_pen_here", "_law_some"] [] := Fulawupick.bindsN (fun _ _ _ _ _ _ us hl => match us, hl with | [_, _], _ => rfl)
  have gulawupick : mg "_law_pick" = some (.ref (He.ga K "_law_pick")) := gl _ (by simp [gloNames])
  have HPi : HasPick P w K mg base := ⟨⟨_, dulawupick, gulawupick, Fulawupick.kp, bulawupick, ok_pick G HT Fulawupick⟩⟩
  have HPS : HasPickS P w K mg base := ⟨⟨_, dulawupick, gulawupick, Fulawupick.kp, bulawupick, ok_pickS G HT Fulawupick⟩⟩
  obtain ⟨dulawunames, Fulawunames⟩ := sd.def_ 56
  replace Fulawunames : DefAt K "_law_names" "_law_names" sNames (He.ga K "_law_names") dulawunames := Fulawunames
  have bulawunames : Binds K dulawunames ["_law_pen_here", "_law_many"] [] := Fulawunames.bindsN (fun _ _ _ _ _ _ us hl => match us, hl with | [_, _], _ => rfl)
  have gulawunames : mg "_law_names" = some (.ref (He.ga K "_law_names")) := gl _ (by simp [gloNames])
  have HLN : HasLNames P w K mg base := ⟨⟨_, dulawunames, gulawunames, Fulawunames.kp, bulawunames, ok_lnames G HT HPS Fulawunames⟩⟩
  obtain ⟨dulawurows, Fulawurows⟩ := sd.def_ 57
  replace Fulawurows : DefAt K "_law_rows" "_law_rows" sRows (He.ga K "_law_rows") dulawurows := Fulawurows
  have bulawurows : Binds K dulawurows ["_law_pen_here", "_law_strangers", "_law_many"] [] := Fulawurows.bindsN (fun _ _ _ _ _ _ us hl => match us, hl with | [_, _, _], _ => rfl)
  have gulawurows : mg "_law_rows" = some (.ref (He.ga K "_law_rows")) := gl _ (by simp [gloNames])
  have HRw : HasRows P w K mg base := ⟨⟨_, dulawurows, gulawurows, Fulawurows.kp, bulawurows, ok_rows G HT HPi Fulawurows⟩⟩
  obtain ⟨dulawuworth, Fulawuworth⟩ := sd.def_ 58
  replace Fulawuworth : DefAt K "_law_worth" "_law_worth" sWorth (He.ga K "_law_worth") dulawuworth := Fulawuworth
  have bulawuworth : Binds K dulawuworth ["_law_pen_here", "_law_sixths"] [] := Fulawuworth.bindsN (fun _ _ _ _ _ _ us hl => match us, hl with | [_, _], _ => rfl)
  have gulawuworth : mg "_law_worth" = some (.ref (He.ga K "_law_worth")) := gl _ (by simp [gloNames])
  have HWo : HasWorth P w K mg base (He.ga K "Ratio") := ⟨⟨_, dulawuworth, gulawuworth, Fulawuworth.kp, bulawuworth, ok_worth HT MR Fulawuworth⟩⟩
  obtain ⟨dulawuhands, Fulawuhands⟩ := sd.def_ 59
  replace Fulawuhands : DefAt K "_law_hands" "_law_hands" sHandsL (He.ga K "_law_hands") dulawuhands := Fulawuhands
  have bulawuhands : Binds K dulawuhands ["_law_pen_here", "_law_names_here", "_law_rows_here"] [] := Fulawuhands.bindsN (fun _ _ _ _ _ _ us hl => match us, hl with | [_, _, _], _ => rfl)
  have gulawuhands : mg "_law_hands" = some (.ref (He.ga K "_law_hands")) := gl _ (by simp [gloNames])
  have HHL : HasHandsL P w K mg base (He.ga K "Ratio") (He.ga K "HandOver") := ⟨⟨_, dulawuhands, gulawuhands, Fulawuhands.kp, bulawuhands, ok_handsL HWo MH Fulawuhands⟩⟩
  obtain ⟨dulawuline, Fulawuline⟩ := sd.def_ 60
  replace Fulawuline : DefAt K "_law_line" "_law_line" sLine (He.ga K "_law_line") dulawuline := Fulawuline
  have bulawuline : Binds K dulawuline ["_law_strangers", "_law_rows_here"] [] := Fulawuline.bindsN (fun _ _ _ _ _ _ us hl => match us, hl with | [_, _], _ => rfl)
  have gulawuline : mg "_law_line" = some (.ref (He.ga K "_law_line")) := gl _ (by simp [gloNames])
  have HLn : HasLine P w K mg base := ⟨⟨_, dulawuline, gulawuline, Fulawuline.kp, bulawuline, ok_line Fulawuline⟩⟩
  obtain ⟨dulawuis, Fulawuis⟩ := sd.def_ 61
  replace Fulawuis : DefAt K "_law_is" "_law_is" sIs (He.ga K "_law_is") dulawuis := Fulawuis
  have bulawuis : Binds K dulawuis ["_law_value", "_law_sixths"] [] := Fulawuis.bindsN (fun _ _ _ _ _ _ us hl => match us, hl with | [_, _], _ => rfl)
  have gulawuis : mg "_law_is" = some (.ref (He.ga K "_law_is")) := gl _ (by simp [gloNames])
  have HIs : HasIs P w K mg base (He.ga K "Ratio") := ⟨⟨_, dulawuis, gulawuis, Fulawuis.kp, bulawuis, ok_is G R gR Fulawuis⟩⟩
  obtain ⟨dulawuisuline, Fulawuisuline⟩ := sd.def_ 62
  replace Fulawuisuline : DefAt K "_law_is_line" "_law_is_line" sIsLine (He.ga K "_law_is_line") dulawuisuline := Fulawuisuline
  have bulawuisuline : Binds K dulawuisuline ["_law_value", "_law_line_here"] [] := Fulawuisuline.bindsN (fun _ _ _ _ _ _ us hl => match us, hl with | [_, _], _ => rfl)
  have gulawuisuline : mg "_law_is_line" = some (.ref (He.ga K "_law_is_line")) := gl _ (by simp [gloNames])
  have HIL : HasIsLine P w K mg base (He.ga K "Ratio") := ⟨⟨_, dulawuisuline, gulawuisuline, Fulawuisuline.kp, bulawuisuline, ok_isline G HIs Fulawuisuline⟩⟩
  obtain ⟨dulawuallusets, Fulawuallusets⟩ := sd.def_ 63
  replace Fulawuallusets : DefAt K "_law_all_sets" "_law_all_sets" sAllSets (He.ga K "_law_all_sets") dulawuallusets := Fulawuallusets
  have bulawuallusets : Binds K dulawuallusets ["_law_many"] [] := Fulawuallusets.bindsN (fun _ _ _ _ _ _ us hl => match us, hl with | [_], _ => rfl)
  have gulawuallusets : mg "_law_all_sets" = some (.ref (He.ga K "_law_all_sets")) := gl _ (by simp [gloNames])
  have HAS : Has P w K mg base CX0 1 "_law_all_sets" ["_law_many"] spAllSets := ⟨⟨_, dulawuallusets, gulawuallusets, Fulawuallusets.kp, bulawuallusets, ok_allSets G Fulawuallusets⟩⟩
  obtain ⟨dulawuturned, Fulawuturned⟩ := sd.def_ 64
  replace Fulawuturned : DefAt K "_law_turned" "_law_turned" sTurned (He.ga K "_law_turned") dulawuturned := Fulawuturned
  have bulawuturned : Binds K dulawuturned ["_law_pen_here", "_law_numbers"] [] := Fulawuturned.bindsN (fun _ _ _ _ _ _ us hl => match us, hl with | [_, _], _ => rfl)
  have gulawuturned : mg "_law_turned" = some (.ref (He.ga K "_law_turned")) := gl _ (by simp [gloNames])
  have HTu : HasTurned P w K mg base := ⟨⟨_, dulawuturned, gulawuturned, Fulawuturned.kp, bulawuturned, ok_turned G HT Fulawuturned⟩⟩
  obtain ⟨dulawuseturight, Fulawuseturight⟩ := sd.def_ 65
  replace Fulawuseturight : DefAt K "_law_set_right" "_law_set_right" sSetRight (He.ga K "_law_set_right") dulawuseturight := Fulawuseturight
  have bulawuseturight : Binds K dulawuseturight ["_law_pen_here", "_law_swap", "_law_names_here", "_law_rows_here", "_law_done"] [] := Fulawuseturight.bindsN (fun _ _ _ _ _ _ us hl => match us, hl with | [_, _, _, _, _], _ => rfl)
  have gulawuseturight : mg "_law_set_right" = some (.ref (He.ga K "_law_set_right")) := gl _ (by simp [gloNames])
  have HSR : Has P w K mg base CX0 10 "_law_set_right" ["_law_pen_here", "_law_swap", "_law_names_here", "_law_rows_here", "_law_done"] (spSetR (He.ga K "Ratio") (He.ga K "HandOver") (He.ga K "Swap")) := ⟨⟨_, dulawuseturight, gulawuseturight, Fulawuseturight.kp, bulawuseturight, ok_setR G RS HT HTu HLn HIs HIL HDs HRe HSu HOf HGa HTo Fulawuseturight⟩⟩
  obtain ⟨dulawualonguright, Fulawualonguright⟩ := sd.def_ 66
  replace Fulawualonguright : DefAt K "_law_along_right" "_law_along_right" sAlongRight (He.ga K "_law_along_right") dulawualonguright := Fulawualonguright
  have bulawualonguright : Binds K dulawualonguright ["_law_pen_here", "_law_swap", "_law_names_here", "_law_rows_here"] [] := Fulawualonguright.bindsN (fun _ _ _ _ _ _ us hl => match us, hl with | [_, _, _, _], _ => rfl)
  have gulawualonguright : mg "_law_along_right" = some (.ref (He.ga K "_law_along_right")) := gl _ (by simp [gloNames])
  have HAR : Has P w K mg base CX0 12 "_law_along_right" ["_law_pen_here", "_law_swap", "_law_names_here", "_law_rows_here"] (spAlR (He.ga K "Ratio") (He.ga K "HandOver") (He.ga K "Swap")) := ⟨⟨_, dulawualonguright, gulawualonguright, Fulawualonguright.kp, bulawualonguright, ok_alR G RS HT HTu HLn HIL HAl Fulawualonguright⟩⟩
  obtain ⟨dulawuheard, Fulawuheard⟩ := sd.def_ 67
  replace Fulawuheard : DefAt K "_law_heard" "_law_heard" sHeard (He.ga K "_law_heard") dulawuheard := Fulawuheard
  have bulawuheard : Binds K dulawuheard ["_law_ask"] [] := Fulawuheard.bindsN (fun _ _ _ _ _ _ us hl => match us, hl with | [_], _ => rfl)
  have gulawuheard : mg "_law_heard" = some (.ref (He.ga K "_law_heard")) := gl _ (by simp [gloNames])
  have HF : HasHeard K mg (He.ga K "LastError") (He.ga K "BadSwap") (He.ga K "BadDone") (He.ga K "NoHand") (He.ga K "Twice") (He.ga K "NoStranger") (He.ga K "TooMany") := ⟨⟨_, dulawuheard, gulawuheard, Fulawuheard⟩, HD_⟩
  obtain ⟨dulawurefuseduright, Fulawurefuseduright⟩ := sd.def_ 68
  replace Fulawurefuseduright : DefAt K "_law_refused_right" "_law_refused_right" sRefused (He.ga K "_law_refused_right") dulawurefuseduright := Fulawurefuseduright
  have bulawurefuseduright : Binds K dulawurefuseduright ["_law_pen_here", "_law_swap", "_law_names_here", "_law_many"] [] := Fulawurefuseduright.bindsN (fun _ _ _ _ _ _ us hl => match us, hl with | [_, _, _, _], _ => rfl)
  have gulawurefuseduright : mg "_law_refused_right" = some (.ref (He.ga K "_law_refused_right")) := gl _ (by simp [gloNames])
  have HRf : HasQ P w K mg base 15 "_law_refused_right" ["_law_pen_here", "_law_swap", "_law_names_here", "_law_many"] (spRef4 (TT K) (He.ga K "Ratio") (He.ga K "HandOver") (He.ga K "Swap")) := ⟨⟨_, dulawurefuseduright, gulawurefuseduright, Fulawurefuseduright.kp, bulawurefuseduright, ok_ref4 G OD RS MS MH HSu HRe HDs HOf HGa HTo HAl HDS NM NST HPi HF TB (.head _) u1 (defC_of Fulawurefuseduright)⟩⟩
  obtain ⟨dulawutwelveuright, Fulawutwelveuright⟩ := sd.def_ 69
  replace Fulawutwelveuright : DefAt K "_law_twelve_right" "_law_twelve_right" sTwelve (He.ga K "_law_twelve_right") dulawutwelveuright := Fulawutwelveuright
  have bulawutwelveuright : Binds K dulawutwelveuright ["_law_names_here"] [] := Fulawutwelveuright.bindsN (fun _ _ _ _ _ _ us hl => match us, hl with | [_], _ => rfl)
  have gulawutwelveuright : mg "_law_twelve_right" = some (.ref (He.ga K "_law_twelve_right")) := gl _ (by simp [gloNames])
  have HTw2 : Has P w K mg base CX0 10 "_law_twelve_right" ["_law_names_here"] spTwelve := ⟨⟨_, dulawutwelveuright, gulawutwelveuright, Fulawutwelveuright.kp, bulawutwelveuright, ok_twelve G MS MH HDS Fulawutwelveuright⟩⟩
  obtain ⟨dlaw, Flaw⟩ := sd.def_ 70
  replace Flaw : DefAt K "law" "law" sLaw (He.ga K "law") dlaw := Flaw
  have blaw : Binds K dlaw ["_law_script"] [] := Flaw.bindsN (fun _ _ _ _ _ _ us hl => match us, hl with | [_], _ => rfl)
  have glaw : mg "law" = some (.ref (He.ga K "law")) := gl _ (by simp [gloNames])
  have LH : LawH P w K mg base (TT K) (He.ga K "Ratio") (He.ga K "HandOver") (He.ga K "Swap") (He.ga K "BadSwap") (He.ga K "TooMany") (He.ga K "NoStranger") := ⟨RS, MS, HPen, HT, HPi, HLN, HRw, HHL, HLn, HAS, HIL, HIs, HDS, PP0, PP1, PP2, NM, HSR, HAR, HRf, HTw2⟩
  exact ⟨dlaw, Flaw, ok_law4 G LH Flaw⟩
end
end K5

/-! k04: the end of a law whose def asks that nothing below be shown. -/
namespace K5
open PySem PySem.Spec PyProof.Rows L2 LamX K1 K18

/-- where the law's call begins: the tables, and the script if no one knows it -/
def startH (K : PySem.W.Frag) (Ts : List Addr) (a : Addr) (o : Obj) (xs : List V) : Hp := fun b => if b ∈ Ts then some (.tbl #[]) else if b = a ∧ K.lookup a = none then some (.frz o (.lst xs)) else none
section
variable {K : PySem.W.Frag} {Ts : List Addr} {a b : Addr} {o : Obj} {xs : List V}
theorem startH_T (m : b ∈ Ts) : startH K Ts a o xs b = some (.tbl #[]) := if_pos m
theorem startH_a (n : a ∉ Ts) (k : K.lookup a = none) : startH K Ts a o xs a = some (.frz o (.lst xs)) := by unfold startH; rw [if_neg n, if_pos ⟨rfl, k⟩]
theorem startH_no (n : b ∉ Ts) (k : ¬ (b = a ∧ K.lookup a = none)) : startH K Ts a o xs b = none := by unfold startH; rw [if_neg n, if_neg k]
theorem startH_is {u : HO} (e : startH K Ts a o xs b = some u) : (b ∈ Ts ∧ u = .tbl #[]) ∨ (b = a ∧ K.lookup a = none ∧ u = .frz o (.lst xs)) := by
  by_cases m : b ∈ Ts
  · rw [startH_T m] at e; exact .inl ⟨m, (Option.some.inj e).symm⟩
  by_cases k : b = a ∧ K.lookup a = none
  · unfold startH at e
    rw [if_neg m, if_pos k] at e
    exact .inr ⟨k.1, k.2, (Option.some.inj e).symm⟩
  · rw [startH_no m k] at e; cases e
end
theorem law_callG {P : Program} {w : World} {K : PySem.W.Frag} {mg mb : Str → Option Value} {k : Nat} {fa a : Addr} {cs : List (Addr × Addr)} {fd : FuncData} {x : Str} {sp : Sp} {s : Shared} {vs : List Value} {ns : List Int}
    (inH : K.In s.heap) (mainN : s.heap.Ns mainGlobals mg) (bootN : s.heap.Ns builtinsNs mb) (boots : ∀ y : Str, y ≠ "__name__" → mb y = bootBuiltins y) (lim : s.heap.NoLimit) (noG : s.gens = #[])
    (tabs : ∀ p ∈ cs, s.heap.get? p.2 = some { cls := .none, data := .fields #[] }) (tabK : ∀ p ∈ cs, K.lookup p.2 = none) (heads : ∀ p ∈ cs, PySem.W.CodeHd s.heap p.1 p.2)
    (bmod : ∃ (bm : Addr) (ob : Obj), mg "__builtins__" = some (.ref bm) ∧ bm ≠ builtinsNs ∧ s.heap.get? bm = some ob ∧ ob.cls = .type "module" ∧ ob.dict = some builtinsNs ∧ ob.data = .plain)
    (scr : s.heap.get? a = some { cls := .type "list", data := .seq vs.toArray }) (isI : IntsAre vs ns) (few : ns.length ≤ sizeLine) (room : Room k callerA)
    (F : ∀ base : Heap, K.In base → base.Ns mainGlobals mg → (∀ p ∈ cs, TabB base mg p.1 p.2) → FnG P w K mg base CX0 k fa fd [x] sp) (binds : ∀ (t : Shared) (u : Value), BindsTo t fd ⟨[u], []⟩ [(x, u)])
    (law : ∀ H : Hp, (∀ p ∈ cs, H p.2 = some (.tbl #[])) → SqL K H a (ns.map V.int) → sp [.ref a] H (fun v _ => v = .bl true) E0) :
    codeAny (model P w) callerA (.call (.ref fa) ⟨[.ref a], []⟩) (fun r t => r = .ok (.ret (.bool true)) ∧ OldK s.heap t.heap ∧ t.os = s.os ∧ AllBare t.gens) s := by
  have rel := vals_ints isI
  obtain ⟨Ts, eT⟩ : ∃ Ts, Ts = cs.map Prod.snd := ⟨_, rfl⟩
  have inTs : ∀ p ∈ cs, p.2 ∈ Ts := fun p m => by rw [eT]; exact List.mem_map_of_mem m
  have ofTs : ∀ b ∈ Ts, ∃ p ∈ cs, p.2 = b := fun b m => by rw [eT] at m; exact List.mem_map.mp m
  have atTs : ∀ b ∈ Ts, s.heap.get? b = some { cls := .none, data := .fields #[] } := fun b m => by
    obtain ⟨p, mp, rfl⟩ := ofTs b m
    exact tabs p mp
  have aT : a ∉ Ts := fun m => by
    have z := (atTs a m).symm.trans scr
    injection z with z
    injection z with _ _ z
    cases z
  obtain ⟨H, eH⟩ : ∃ H, H = startH K Ts a { cls := .type "list", data := .seq vs.toArray } (ns.map V.int) := ⟨_, rfl⟩
  have seen : ∀ (b : Addr) (o : Obj), s.heap.get? b = some o → b ∉ Ts → ¬ (b = a ∧ K.lookup a = none) → (hidT s.heap H).get? b = some o := fun b o e n1 n2 => hidT_get e (by rw [eH]; exact startH_no n1 n2)
  have plain : ∀ (b : Addr) (o : Obj), s.heap.get? b = some o → o.data ≠ .seq vs.toArray → o.data ≠ .fields #[] → (hidT s.heap H).get? b = some o := fun b o e n1 n2 => seen b o e
    (fun m => n2 (congrArg Obj.data (Option.some.inj (e.symm.trans (atTs b m))))) fun z => n1 (congrArg Obj.data (Option.some.inj (e.symm.trans (by rw [z.1]; exact scr))))
  have space : ∀ {b : Addr} {m : Str → Option Value}, s.heap.Ns b m → (hidT s.heap H).Ns b m := fun ⟨o, es, ep, e, d, r⟩ => ⟨o, es, ep, plain _ o e (by rw [d]; exact fun z => nomatch z) (by rw [d]; exact fun z => nomatch z), d, r⟩
  have inB : K.In (hidT s.heap H) := fun b o e => seen b o (inH b o e) (fun m => by
    obtain ⟨p, mp, rfl⟩ := ofTs b m
    rw [tabK p mp] at e; cases e) fun z => by rw [z.1, z.2] at e; cases e
  have okH : HOk P w H s.heap := fun b u e => by
    rw [eH] at e
    rcases startH_is e with ⟨m, rfl⟩ | ⟨rfl, _, rfl⟩
    · exact atTs b m
    · exact ⟨scr, by rw [List.length_map]; exact few, vs, _, rel, scr⟩
  have tbs : ∀ p ∈ cs, TabB (hidT s.heap H) mg p.1 p.2 := fun p mp => by
    have atp := tabs p mp
    obtain ⟨bm, ob, b1, b2, b3, b4, b5, b6⟩ := bmod
    obtain ⟨oc, fs, file, tf, flags, tg, inF, text, tt, e1, e2, e3, e4, e5, e6, e7, e8, e9, e10⟩ := heads p mp
    have nm : mainGlobals ≠ p.2 := fun z => by
      obtain ⟨o, es, ep, e, d, _⟩ := mainN
      rw [z, atp] at e
      cases e; cases d
    refine ⟨⟨oc, fs, file, tf, flags, tg, inF, text, tt, plain _ oc e1 (by rw [e3]; exact fun z => nomatch z) (fun z => ?_), e2, e3, e4, e5, e6, e7, e8, e9, e10⟩, ⟨bm, ob, b1, b2, fun z => ?_, fun z => ?_, plain _ ob b3 (by rw [b6]; exact fun z => nomatch z) (by rw [b6]; exact fun z => nomatch z), b4, b5, b6⟩, nm⟩
    · rw [e3] at z
      injection z with z
      rw [z] at e4
      simp at e4
    · obtain ⟨o, es, ep, e, d, _⟩ := mainN
      rw [← z, b3] at e
      cases e
      rw [b6] at d; cases d
    · rw [z, atp] at b3
      cases b3; cases b6
  have seqA : SqL K H a (ns.map V.int) := by
    cases hk : K.lookup a with
    | none => exact .inl (.inr ⟨_, by rw [eH]; exact startH_a aT hk⟩)
    | some o =>
      have e := (inH a o hk).symm.trans scr
      injection e with e
      subst e
      exact .inr ⟨_, vs.toArray, _, hk, rfl, rfl, rfl, by rw [List.size_toArray, isI.length]; exact few, by simpa using rel⟩
  have tabH : ∀ p ∈ cs, H p.2 = some (.tbl #[]) := fun p mp => by rw [eH]; exact startH_T (inTs p mp)
  have env : Env0 P w K mg (hidT s.heap H) callerA [] s H := ⟨rfl, ⟨inB, space mainN, ⟨mb, space bootN, boots⟩, let ⟨mc, h1, h2⟩ := lim; ⟨mc, space h1, h2⟩⟩, fun b o e => of_hidT e, Nat.le_of_eq (hidT_size _ _), trivial, fun b m => (List.not_mem_nil m).elim, okH, .of_eq noG⟩
  refine codeAny_mono ((F _ inB (space mainN) tbs).go callerA [] s H ⟨[.ref a], []⟩ [.ref a] [.ref a] _ _ rfl room env (binds s (.ref a)) (.cons rfl .nil) (law H tabH seqA)) fun r t out => ?_
  rcases r with err | fl
  · exact (show False from out).elim
  cases fl with
  | ret u =>
    obtain ⟨v, H', os, bare, un, ok', rv, rfl⟩ := out
    obtain rfl : u = Value.bool true := rv
    have stay : ∀ b o, b ∉ Ts → s.heap.get? b = some o → t.heap.get? b = some o := fun b o nb e => by
      by_cases kn : b = a ∧ K.lookup a = none
      · have z : H b = some (.frz { cls := .type "list", data := .seq vs.toArray } (.lst (ns.map V.int))) := by rw [kn.1, eH]; exact startH_a aT kn.2
        obtain ⟨y1, _⟩ := okH b _ z
        obtain ⟨y2, _⟩ := ok' b _ (un.frzs b _ _ z)
        rw [y1] at e
        cases e
        exact y2
      · exact un.keep b o e (by rw [eH]; exact startH_no nb kn) (fun m => (List.not_mem_nil m).elim) (by simp)
    have more : ∀ p ∈ cs, ∃ vs2 : Array Value, t.heap.get? p.2 = some { cls := .none, data := .fields vs2 } := fun p mp => by
      obtain ⟨vs2, z⟩ := un.tbls p.2 #[] (tabH p mp)
      exact ⟨_, ok' p.2 _ z⟩
    refine ⟨rfl, ⟨fun b o e => ?_, fun b o e => ?_⟩, os, bare⟩ <;> by_cases m : b ∈ Ts
    · obtain ⟨p, mp, rfl⟩ := ofTs b m
      obtain ⟨vs2, z⟩ := more p mp
      rw [tabs p mp] at e
      cases e
      exact .inr (.inl ⟨((heads p mp).tab (tabs p mp)).isCodeTable, rfl, #[], vs2, rfl, by rw [z, Array.empty_append]⟩)
    · exact .inl (stay b o m e)
    · obtain ⟨p, mp, rfl⟩ := ofTs b m
      exact let ⟨_, z⟩ := more p mp; ⟨_, z⟩
    · exact ⟨o, stay b o m e⟩
  | next => exact (show False from out).elim
  | brk => exact (show False from out).elim
  | cont => exact (show False from out).elim
end K5

namespace K5
open PySem PySem.Spec PyProof.Rows L2 LamX K1 K18
theorem factAll_ok {K : PySem.W.Frag} (h : factAll K = true) : Facts K := by
  obtain ⟨a0, h⟩ := He.ba h
  obtain ⟨a1, h⟩ := He.ba h
  obtain ⟨a2, h⟩ := He.ba h
  obtain ⟨a3, h⟩ := He.ba h
  obtain ⟨a4, a5⟩ := He.ba h
  exact facts_of a0 a1 a2 a3 a4 a5
/-- a table of lambdas, empty yet -/
structure TabF (K : PySem.W.Frag) (h : Heap) (c T : Addr) : Prop where
  hd : PySem.W.codeHdIn K c T = true
  no : K.lookup T = none
  at_ : h.get? T = some { cls := .none, data := .fields #[] }
theorem tab1_ok {h : Heap} {l : List Addr} {c T : Addr} (e : tab1 h.get? (He.frT h.get? l) c T = true) : TabF (He.frT h.get? l) h c T := by
  obtain ⟨h1, h2⟩ := He.ba e
  cases q : h.get? T with
  | none => rw [q] at h2; cases h2
  | some o =>
    rw [q] at h2
    exact ⟨h1, He.frT_none q h2, by rw [q, He.emptyTab_eq h2]⟩
/-- what the opened module tells, of its objects and of the tables -/
def Told1 (h : Heap) : Prop := ∃ K : PySem.W.Frag, K.In h ∧ Facts K ∧ He5.SaysA [] fns K ∧ TabF K h (cR K) (tR K)
theorem told1_of {h : Heap} (e1 : factAll (He.frT h.get? adl) = true) (e2 : He5.obsA [] fns (He.frT h.get? adl) = He5.valA fns) (e3 : tabE h.get? (He.frT h.get? adl) = true) : Told1 h := by
  exact ⟨_, He.frT_in, factAll_ok e1, e2, tab1_ok e3⟩
def hk : PySem.W.Hook where
  α := Bool × He.AlD × Bool
  obs := fun s => (factAll (He.frT s.heap.get? adl), He5.obsA [] fns (He.frT s.heap.get? adl), tabE s.heap.get? (He.frT s.heap.get? adl))
  val := fun _ => (true, He5.valA fns, true)
  says := fun _ h => Told1 h
  of := fun _ _ e => told1_of (congrArg (fun z : Bool × He.AlD × Bool => z.1) e) (congrArg (fun z : Bool × He.AlD × Bool => z.2.1) e) (congrArg (fun z : Bool × He.AlD × Bool => z.2.2) e)
  keeps := fun _ _ _ ⟨K, hK, c1, c2, c3⟩ k => ⟨K, PySem.W.Frag.In.keeps hK k, c1, c2, ⟨c3.hd, c3.no, k _ _ c3.at_⟩⟩
def ob (s : PySem.W.SharedT) : Bool × He.AlD × Bool := (factAll (oF s), He5.obsA [] fns (oF s), tabE (HandSHeadRun.getT s) (oF s))
theorem ob_eq (s : PySem.W.SharedT) : ob s = hk.obs s.abs := by
  have e : HandSHeadRun.getT s = s.abs.heap.get? := funext (HandSHeadRun.getT_eq s)
  unfold ob oF
  rw [e]
  rfl
theorem run (w : World) : HandSHeadRun.RunEqI RR (PySem.W.view RR.prog [0, 89]) hk ob 40000 loose w := by
  unfold HandSHeadRun.RunEqI
  exact runAll w
/-- the walk's end, with some tables -/
theorem walkT {l : PySem.W.OpenLaw} {n k : Nat} {q : Program} {loose : List Str} {XP : (Str → Option Value) → Heap → Prop} {YP : World → Heap → Prop} {d : DefRec} {x : Str}
    (m1 : l.most = some n) (m2 : n ≤ sizeLine) (m3 : d.params.defaults = []) (m4 : Room k callerA)
    (F : ∀ (w : World) (mg : Str → Option Value) (fa : Addr) (h : Heap), YP w h → h.Ns mainGlobals mg → mg d.name = some (.ref fa) →
      ∃ (K : PySem.W.Frag) (fd : FuncData) (sp : Sp) (cs : List (Addr × Addr)), K.In h ∧ (∀ p ∈ cs, h.get? p.2 = some { cls := .none, data := .fields #[] }) ∧ (∀ p ∈ cs, K.lookup p.2 = none) ∧ (∀ p ∈ cs, PySem.W.CodeHd h p.1 p.2) ∧ (∀ (s : Shared) (u : Value), BindsTo s fd ⟨[u], []⟩ [(x, u)]) ∧
        (∀ (H : Hp) (a : Addr) (ns : List Int), ns.length ≤ n → (∀ p ∈ cs, H p.2 = some (.tbl #[])) → SqL K H a (ns.map V.int) → sp [.ref a] H (fun v _ => v = .bl true) fun _ _ _ => False) ∧
        ∀ base : Heap, K.In base → base.Ns mainGlobals mg → (∀ p ∈ cs, TabB base mg p.1 p.2) → FnG l.prog w K mg base CX0 k fa fd [x] sp) :
    PySem.W.WalkO q loose XP YP l.row.toRowW d [] (fun f vs => PySem.call f vs) := by
  refine Att.attach_call m1 m3 fun w u0 u1 mg mb fa ob pm cd doc aa vs ns GG YY g1 g2 g3 g4 g5 g6 g7 g8 => ?_
  obtain ⟨K, fd, sp, cs, k1, k2, k3, k4, k5, k6, k7⟩ := F w mg fa _ YY GG.T.g g4
  exact law_callG (cs := cs) k1 GG.T.g GG.T.b GG.T.builtins GG.T.nolimit g8 k2 k3 k4 GG.T.bmain g5 g6 (Nat.le_trans g7 m2) m4 (fun bb b1 b2 b3 => k7 bb b1 b2 b3) k5 fun HH tt ss => k6 HH aa ns g7 tt ss
theorem ends4 {l : PySem.W.OpenLaw} {w : World} {mg : Str → Option Value} {fa : Addr} {h : Heap} (t : Told1 h) (Nh : h.Ns mainGlobals mg) (em : mg ("law" : Str) = some (.ref fa)) :
    ∃ (K : PySem.W.Frag) (fd : FuncData) (sp : Sp) (cs : List (Addr × Addr)), K.In h ∧ (∀ p ∈ cs, h.get? p.2 = some { cls := .none, data := .fields #[] }) ∧ (∀ p ∈ cs, K.lookup p.2 = none) ∧ (∀ p ∈ cs, PySem.W.CodeHd h p.1 p.2) ∧ (∀ (s : Shared) (u : Value), BindsTo s fd ⟨[u], []⟩ [("_law_script", u)]) ∧
        (∀ (H : Hp) (a : Addr) (ns : List Int), ns.length ≤ 63 → (∀ p ∈ cs, H p.2 = some (.tbl #[])) → SqL K H a (ns.map V.int) → sp [.ref a] H (fun v _ => v = .bl true) fun _ _ _ => False) ∧
        ∀ base : Heap, K.In base → base.Ns mainGlobals mg → (∀ p ∈ cs, TabB base mg p.1 p.2) → FnG l.prog w K mg base CX0 16 fa fd ["_law_script"] sp := by
  obtain ⟨K, c1, c2, c3, t1⟩ := t
  have eg : mg ("law" : Str) = some (.ref (He.ga K "law")) := PySem.W.mg_of c1 Nh (He.eqO_ok (List.all_eq_true.mp c2.glo_ "law" (by simp [gloNames])))
  obtain rfl : He.ga K "law" = fa := by
    rw [eg] at em
    exact Value.ref.inj (Option.some.inj em)
  obtain ⟨fd, FL⟩ := c3.def_ 70
  replace FL : DefAt K "law" "law" sLaw (He.ga K "law") fd := FL
  have bL := FunD.bindsA (ps := ["_law_script"]) FL fun _ _ _ _ _ _ us hl => match us, hl with | [_], _ => rfl
  have each : ∀ {φ : Addr × Addr → Prop}, φ (cR K, tR K) → ∀ p ∈ [(cR K, tR K)], φ p := fun h1 p hp => by
    rw [List.mem_singleton.mp hp]; exact h1
  refine ⟨K, fd, spLaw K (TT K), [(cR K, tR K)], c1, each t1.at_, each t1.no, each (PySem.W.codeHd_of_K c1 t1.hd), fun s u => bL s [u] rfl, fun H a ns z1 z2 z3 => ⟨a, ns, rfl, z3, z1, fun p hp => ?_, fun _ => rfl⟩, fun base XB NB TB => ?_⟩
  · have y1 := z2 (cR K, tR K) (.head _)
    rw [List.mem_singleton.mp hp]; exact TabS.nil y1
  · obtain ⟨fd2, FL2, ok⟩ := law_in (P := l.prog) (w := w) XB NB c2 c3 (TB (cR K, tR K) (.head _))
    obtain ⟨oc, od, dV, kV, doc, pm, an, cdv, ct, osl, e1, l1, _⟩ := FL.ex
    obtain ⟨oc2, od2, dV2, kV2, doc2, pm2, an2, cdv2, ct2, osl2, e2, l2, _⟩ := FL2.ex
    have e3 : fd2 = fd := by
      rw [l1] at l2
      injection l2 with l2
      injection l2 with _ _ l3 _
      injection l3 with l3
      exact l3.symm
    rw [← e3]
    exact ok
end K5
open PySem PySem.W PySem.Calls PyProof.Rows
theorem PySem.Challenge.cw_lastgiver_k04_sums_at_every_done_set_holds : PySem.Challenge.rw_lastgiver_k04_sums_at_every_done_set.Holds := by
  w_on; o_law
  refine HandSHeadRun.head_imp (r := K5.RR) (q := view K5.RR.prog [0, 89]) (H := K5.hk) (ob := K5.ob) (M := 40000) (loose := K5.loose) (d := HandSHeadRun.topDef K5.RR.prog 89) (kwd := []) K5.ob_eq
    K5.run (by kernel_rfl) (by kernel_rfl) (by kernel_rfl) (by rfl) (by first | assumption | decide +kernel) (by decide +kernel) ⟨rfl, rfl, rfl, rfl, rfl, by decide +kernel⟩ ?hw ?hc
  case hw => w_witness2
  case hc =>
    refine K5.walkT (l := PySem.Challenge.rw_lastgiver_k04_sums_at_every_done_set) (n := 63) (k := 16) (x := "_law_script") rfl (by decide) (by kernel_rfl) ⟨rfl, by decide, by decide⟩ ?F
    intro w mg fa h Y Nh em
    have en : (HandSHeadRun.topDef K5.RR.prog 89).name = ("law" : PySem.Str) := by kernel_rfl
    rw [en] at em
    exact K5.ends4 (l := PySem.Challenge.rw_lastgiver_k04_sums_at_every_done_set) Y Nh em
