import PyProof.Rows.All
import Wide.All
import OpenK.AllK
import Wide.FinOn
import KE.KOpsOwn
import HandS.ForMost
import HandS.ForExc
import HandS.Property
import HandS.ClsMeth
import KE.KCallOwn
import HandS.HeadNt
import HandS.Lambda
import HandS.ExcInit
import HandS.ExcField
import HandS.Wide
import HandS.Style
import HandS.IsInst
import HandS.Text
import HandS.Defaults
import HandS.TupSets
import HandS.SetBool
import HandS.Strs
import HandS.TryMany
import HandS.ExcIs
import HandS.Nested
import HandS.Gcd
import HandS.Star
import HandS.MethStar
import HandS.Conv
import KE.KExcIs
import HandS.SortInts
import PyProof.TupleOfSeq
import HandS.ExcValue
import HandS.GenBody
import HandS.GenList
import HandS.Comp
import HandS.Walk
import HandS.Codes
import OpenK.KMeth
import PyProof.InstEq
import PyProof.EqKinds
import HandS.TupAny
import HandS.Zip
import HandS.ReCall
import HandS.CallLocal
import PyProof.ReprNest
import PyProof.ReprDict
import PyProof.ReprReads
import PyProof.ReprHeadsEmpty
import PyProof.StrHeap
import PyProof.CallFns
import HandS.List
import HandS.Dict
import HandS.HotCalls
import HandS.Hot
import HandS.Iter
import HandS.Head0
import HandS.Head1
import HandS.Head2
import HandS.Head3
import HandS.HeadHook1
import HandS.HeadHook2
import HandS.HeadHook4
import HandS.EndTab
import KE.KStateDown
import Lean
import PySem.Challenge.RW_lastgiver_k44_one_stranger_spared_of_all
set_option Elab.async false
set_option linter.all false
set_option maxRecDepth 100000
set_option maxHeartbeats 0
namespace K1
end K1
namespace K18
end K18
namespace K4
end K4
namespace K18R
end K18R
namespace K2
end K2
namespace K5
end K5
namespace K18
open PySem PySem.Spec PyProof.Rows L2 LamX K1
def top (i : Nat) : Stmt := PySem.Challenge.pw_lastgiver_k44_one_stranger_spared_of_all.main.body.getD i (.Pass ⟨0, 0, 0, 0⟩)
end K18
namespace K18
open PySem PySem.Spec PyProof.Rows L2 LamX K1
abbrev sIsInt : Stmt := top 23
end K18
namespace K18
open PySem PySem.Spec PyProof.Rows L2 LamX K1
abbrev sWithin : Stmt := top 24
end K18
namespace K18
open PySem PySem.Spec PyProof.Rows L2 LamX K1
abbrev sName : Stmt := top 25
end K18
namespace K18
open PySem PySem.Spec PyProof.Rows L2 LamX K1
abbrev sListed : Stmt := top 26
end K18
namespace K18
open PySem PySem.Spec PyProof.Rows L2 LamX K1
abbrev sAreInts : Stmt := top 27
end K18
namespace K18
open PySem PySem.Spec PyProof.Rows L2 LamX K1
abbrev sAreNames : Stmt := top 28
end K18
namespace K18
open PySem PySem.Spec PyProof.Rows L2 LamX K1
abbrev sNoneTwice : Stmt := top 29
end K18
namespace K18
open PySem PySem.Spec PyProof.Rows L2 LamX K1
abbrev sHands : Stmt := top 30
end K18
namespace K18
open PySem PySem.Spec PyProof.Rows L2 LamX K1
abbrev sHand : Stmt := top 31
end K18
namespace K18
open PySem PySem.Spec PyProof.Rows L2 LamX K1
abbrev sIsRow : Stmt := top 32
end K18
namespace K18
open PySem PySem.Spec PyProof.Rows L2 LamX K1
abbrev sRowTold : Stmt := top 33
end K18
namespace K18
open PySem PySem.Spec PyProof.Rows L2 LamX K1
abbrev sRight : Stmt := top 40
end K18
namespace K18
open PySem PySem.Spec PyProof.Rows L2 LamX K1
abbrev sIsRatio : Stmt := top 41
end K18
namespace K18
open PySem PySem.Spec PyProof.Rows L2 LamX K1
abbrev sIsAmount : Stmt := top 42
end K18
namespace K18
open PySem PySem.Spec PyProof.Rows L2 LamX K1
abbrev sAdded : Stmt := top 43
end K18
namespace K18
open PySem PySem.Spec PyProof.Rows L2 LamX K1
abbrev sAreRatios : Stmt := top 44
end K18
namespace K18
open PySem PySem.Spec PyProof.Rows L2 LamX K1
abbrev sCheckSwap : Stmt := top 50
end K18
namespace K18
open PySem PySem.Spec PyProof.Rows L2 LamX K1
abbrev sStranger : Stmt := top 51
end K18
namespace K18
open PySem PySem.Spec PyProof.Rows L2 LamX K1
abbrev sParties : Stmt := top 52
end K18
namespace K18
open PySem PySem.Spec PyProof.Rows L2 LamX K1
abbrev sNetOf : Stmt := top 53
end K18
namespace K18
open PySem PySem.Spec PyProof.Rows L2 LamX K1
abbrev sAlong : Stmt := top 60
end K18
namespace K18
open PySem PySem.Spec PyProof.Rows L2 LamX K1
abbrev sLineB : Stmt := top 61
end K18
namespace K18
open PySem PySem.Spec PyProof.Rows L2 LamX K1
abbrev sBegun : Stmt := top 63
end K18
namespace K18
open PySem PySem.Spec PyProof.Rows L2 LamX K1
abbrev sSpared : Stmt := top 64
end K18
namespace K18
open PySem PySem.Spec PyProof.Rows L2 LamX K1
abbrev sBound : Stmt := top 65
end K18
namespace K18
open PySem PySem.Spec PyProof.Rows L2 LamX K1
abbrev sAbove : Stmt := top 66
end K18
namespace K18
open PySem PySem.Spec PyProof.Rows L2 LamX K1
abbrev sLeast : Stmt := top 67
end K18
namespace K18
open PySem PySem.Spec PyProof.Rows L2 LamX K1
abbrev sVane : Stmt := top 69
end K18
namespace K18
open PySem PySem.Spec PyProof.Rows L2 LamX K1
abbrev sBlow : Stmt := top 70
end K18
namespace K18
open PySem PySem.Spec PyProof.Rows L2 LamX K1
abbrev sSome : Stmt := top 71
end K18
namespace K18
open PySem PySem.Spec PyProof.Rows L2 LamX K1
abbrev sDrawn : Stmt := top 72
end K18
namespace K18
open PySem PySem.Spec PyProof.Rows L2 LamX K1
abbrev sMade : Stmt := top 73
end K18
namespace K18
open PySem PySem.Spec PyProof.Rows L2 LamX K1
abbrev sLAlong : Stmt := top 74
end K18
namespace K18
open PySem PySem.Spec PyProof.Rows L2 LamX K1
abbrev sOrder : Stmt := top 75
end K18
namespace K18
open PySem PySem.Spec PyProof.Rows L2 LamX K1
abbrev sLBegun : Stmt := top 76
end K18
namespace K18
open PySem PySem.Spec PyProof.Rows L2 LamX K1
abbrev sPlaces : Stmt := top 77
end K18
namespace K18
open PySem PySem.Spec PyProof.Rows L2 LamX K1
abbrev sStrRight : Stmt := top 78
end K18
namespace K18
open PySem PySem.Spec PyProof.Rows L2 LamX K1
abbrev sFault : Stmt := top 79
end K18
namespace K18
open PySem PySem.Spec PyProof.Rows L2 LamX K1
abbrev sBadRow : Stmt := top 80
end K18
namespace K18
open PySem PySem.Spec PyProof.Rows L2 LamX K1
abbrev sRefused : Stmt := top 81
end K18
namespace K18
open PySem PySem.Spec PyProof.Rows L2 LamX K1
abbrev sLoses : Stmt := top 82
end K18
namespace K18
open PySem PySem.Spec PyProof.Rows L2 LamX K1
abbrev sPair : Stmt := top 83
end K18
namespace K18
open PySem PySem.Spec PyProof.Rows L2 LamX K1
abbrev sLaw : Stmt := top 84
end K18
namespace K18
open PySem PySem.Spec PyProof.Rows L2 LamX K1
abbrev sRInit : Stmt := inClass (top 39) 0
end K18
namespace K18
open PySem PySem.Spec PyProof.Rows L2 LamX K1
abbrev sRSign : Stmt := inClass (top 39) 1
end K18
namespace K18
open PySem PySem.Spec PyProof.Rows L2 LamX K1
abbrev sRAdd : Stmt := inClass (top 39) 3
end K18
namespace K18
open PySem PySem.Spec PyProof.Rows L2 LamX K1
abbrev sRSub : Stmt := inClass (top 39) 4
end K18
namespace K18
open PySem PySem.Spec PyProof.Rows L2 LamX K1
abbrev sRMul : Stmt := inClass (top 39) 5
end K18
namespace K18
open PySem PySem.Spec PyProof.Rows L2 LamX K1
abbrev sRNeg : Stmt := inClass (top 39) 6
end K18
namespace K18
open PySem PySem.Spec PyProof.Rows L2 LamX K1
abbrev sROver : Stmt := inClass (top 39) 12
end K18
namespace K18
open PySem PySem.Spec PyProof.Rows L2 LamX K1
abbrev sRCmp : Stmt := inClass (top 39) 13
end K18
namespace K18
open PySem PySem.Spec PyProof.Rows L2 LamX K1
abbrev sRBelow : Stmt := inClass (top 39) 14
end K18
namespace K18
open PySem PySem.Spec PyProof.Rows L2 LamX K1
abbrev sROf : Stmt := inClass (top 39) 16
end K18
namespace K18
open PySem PySem.Spec PyProof.Rows L2 LamX K1
abbrev sHInit : Stmt := inClass (top 48) 0
end K18
namespace K18
open PySem PySem.Spec PyProof.Rows L2 LamX K1
abbrev sHEff : Stmt := inClass (top 48) 2
end K18
namespace K18
open PySem PySem.Spec PyProof.Rows L2 LamX K1
abbrev sSInit : Stmt := inClass (top 49) 2
end K18
namespace K18
open PySem PySem.Spec PyProof.Rows L2 LamX K1
abbrev sSNet : Stmt := inClass (top 49) 6
end K18
namespace K18
open PySem PySem.Spec PyProof.Rows L2 LamX K1
abbrev sSLen : Stmt := inClass (top 49) 7
end K18
namespace K18
open PySem PySem.Spec PyProof.Rows L2 LamX K1
abbrev sSItem : Stmt := inClass (top 49) 9
end K18
namespace K18
open PySem PySem.Spec PyProof.Rows L2 LamX K1
abbrev sIni (k : Nat) : Stmt := inClass (top k) 0
end K18
namespace K5
open PySem PySem.Spec PyProof.Rows L2 LamX K1 K18
abbrev rC (K : PySem.W.Frag) : Addr := He.ga K "Ratio"
end K5
namespace K5
open PySem PySem.Spec PyProof.Rows L2 LamX K1 K18
abbrev sC (K : PySem.W.Frag) : Addr := He.ga K "Swap"
end K5
namespace K5
open PySem PySem.Spec PyProof.Rows L2 LamX K1 K18
/-- the code objects of the defs with lambdas, their tables -/
abbrev cR (K : PySem.W.Frag) : Addr := He.codeOf K ("_law_refused_right", none)
end K5
namespace K5
open PySem PySem.Spec PyProof.Rows L2 LamX K1 K18
abbrev tR (K : PySem.W.Frag) : Addr := He.tabOf K (cR K)
end K5
namespace K5
open PySem PySem.Spec PyProof.Rows L2 LamX K1 K18
abbrev cL (K : PySem.W.Frag) : Addr := He.codeOf K ("_law_loses", none)
end K5
namespace K5
open PySem PySem.Spec PyProof.Rows L2 LamX K1 K18
abbrev tL (K : PySem.W.Frag) : Addr := He.tabOf K (cL K)
end K5
namespace K5
open PySem PySem.Spec PyProof.Rows L2 LamX K1 K18
/-- the getter of a property -/
def gP (K : PySem.W.Frag) (C : Addr) (m : Str) : Addr := match PySem.W.recIn K (He.ma K C m) "property" with
  | some (.ref f :: _) => f
  | _ => 0
end K5
namespace K5
open PySem PySem.Spec PyProof.Rows L2 LamX K1 K18
def propB (K : PySem.W.Frag) (C : Addr) (m : Str) : Bool := He.eqO (PySem.W.findIn K (.ref C) m) (some (some (.ref (He.ma K C m)))) && (He.eqO (PySem.W.specialIn K (.ref (He.ma K C m)) "__get__") (some (some (.builtin "property.__get__"))) &&
  (decide (PySem.W.takesIn K (.ref (He.ma K C m)) = some true) && (match PySem.W.recIn K (He.ma K C m) "property" with
    | some (.ref _ :: _) => true
    | _ => false)))
end K5
namespace K5
open PySem PySem.Spec PyProof.Rows L2 LamX K1 K18
def ownB (K : PySem.W.Frag) (x m : Str) : Bool := He.eqO (PySem.W.findIn K (.ref (He.ga K x)) m) (some (some (.ref (He.ma K (He.ga K x) m)))) && PySem.W.isFn K (.ref (He.ma K (He.ga K x) m))
end K5
namespace K5
open PySem PySem.Spec PyProof.Rows L2 LamX K1 K18
/-- a constant of the class Swap -/
def cvB (K : PySem.W.Frag) (f : Str) (n : Int) : Bool := match PySem.W.findCls K (.ref (sC K)) (.type "type") f with
  | some (.val (.int j _)) => decide (j = n)
  | _ => false
end K5
namespace K5
open PySem PySem.Spec PyProof.Rows L2 LamX K1 K18
/-- all that one class is asked for -/
def clsB (K : PySem.W.Frag) (x : Str) : Bool := (He.Fa.cls x).ok K && ((He.Fa.mkr x).ok K && (He.eqO (PySem.W.findIn K (.ref (He.ga K x)) "__class__") (some (some (.builtin "object.__class__"))) && (decide (PySem.W.mroIn K (He.ga K x) (.type "object") = some true) && (decide (PySem.W.kitOne K (.ref (He.ga K x)) (.ref (He.ga K x)) = some true) &&
  (PySem.W.notFirst K (He.ga K x) (.ref (He.ga K x)) && (He.eqO (PySem.W.findIn K (.ref (He.ga K x)) "__ne__") (some (some (.builtin "object.__ne__"))) && decide (PySem.W.subIn K (.ref (He.ga K x)) (.type "object") = some true)))))))
end K5
namespace K5
open PySem PySem.Spec PyProof.Rows L2 LamX K1 K18
def freeNames : List Str := ["abs", "int", "len", "bool", "repr", "isinstance", "range", "all", "list", "tuple", "set", "sorted", "min", "max", "zip", "iter", "str", "sum", "enumerate"]
end K5
namespace K5
open PySem PySem.Spec PyProof.Rows L2 LamX K1 K18
def gloNames : List Str := (["LastError", "Ratio", "HandOver", "Swap", "BadSwap", "BadDone", "NoHand", "Twice", "Unlike", "TooMany", "BadRow", "BadNumber", "NoStranger", "Loser", "is_integer", "is_within", "is_listed", "are_integers", "is_name", "are_names"] : List Str) ++ ((["check_none_twice", "hands_told", "check_hand", "is_row", "row_told", "_right", "is_ratio", "is_amount", "_are_ratios", "added", "_check_parties", "_net_of", "check_swap", "check_stranger", "along", "_line_behind", "begun_at", "spared", "bound_to", "_above_road"] : List Str) ++ (["_least_place", "_law_vane", "_law_blow", "_law_some", "_law_drawn", "_law_made", "_law_along", "_law_order", "_law_begun", "_law_places", "_law_stranger_right", "_law_fault", "_law_bad_row", "_law_refused_right", "_law_loses", "_law_pair_right", "law"] : List Str))
end K5
namespace K5
open PySem PySem.Spec PyProof.Rows L2 LamX K1 K18
def ownPairs : List (Str × Str) := [("Ratio", "__add__"), ("Ratio", "__sub__"), ("Ratio", "__mul__"), ("Ratio", "__neg__"), ("Swap", "__len__"), ("Swap", "__getitem__")]
end K5
namespace K5
open PySem PySem.Spec PyProof.Rows L2 LamX K1 K18
def ktPairs : List (Str × Str × Bool) := [("BadSwap", "BadSwap", true), ("BadRow", "BadSwap", false), ("BadRow", "BadRow", true), ("BadNumber", "BadSwap", false), ("BadNumber", "BadRow", false), ("BadNumber", "BadNumber", true), ("NoStranger", "BadSwap", false), ("NoStranger", "BadRow", false), ("NoStranger", "BadNumber", false), ("NoStranger", "NoStranger", true), ("Loser", "BadSwap", false), ("Loser", "BadRow", false), ("Loser", "BadNumber", false), ("Loser", "NoStranger", false), ("Loser", "Loser", true)]
end K5
namespace K5
open PySem PySem.Spec PyProof.Rows L2 LamX K1 K18
def mroB (C : Addr) : List Value → Bool
  | .ref c :: bm => decide (c = C) && PySem.HandSPX.refsVE bm
  | _ => false
end K5
namespace K5
open PySem PySem.Spec PyProof.Rows L2 LamX K1 K18
/-- an error class: its object, its mro -/
def oexB (K : PySem.W.Frag) (C : Addr) : Bool := match K.lookup C with
  | some ⟨.type t, _, .cls cd, sl⟩ => t == "type" && ((match sl.toList with
    | [_, _, _, _, some (.builtin n), _] => n == "ValueError.__new__"
    | _ => false) && (!cd.hasDel && (cd.hasDict && mroB C cd.mro)))
  | _ => false
end K5
namespace K5
open PySem PySem.Spec PyProof.Rows L2 LamX K1 K18
/-- all that one error class is asked for -/
def errB (K : PySem.W.Frag) (x : Str) (fs : List Str) : Bool := oexB K (He.ga K x) && (He.eqO (PySem.W.findIn K (.ref (He.ga K x)) "__setattr__") (some (some (.builtin "object.__setattr__"))) && (decide (PySem.W.typeIn K (.ref (He.ga K x)) = some (.type "type")) && (PySem.W.keepIn K (.ref (He.ga K x)) && (xfB K (He.ga K x) &&
  (He.eqO (PySem.W.findIn K (.ref (He.ga K x)) "__init__") (some (some (.ref (He.ma K (He.ga K x) "__init__")))) && (decide (PySem.W.typeIn K (.ref (He.ma K (He.ga K x) "__init__")) = some (.type "function")) && (He.eqO (PySem.W.findIn K (.ref (He.ga K x)) "__class__") (some (some (.builtin "object.__class__"))) &&
  (decide (PySem.W.mroIn K (He.ga K x) (.type "object") = some true) && (decide (PySem.W.exmOne K (.ref (He.ga K x)) (.ref (He.ga K "LastError")) = some true) && fs.all fun f => He.eqO (PySem.W.findIn K (.ref (He.ga K x)) f) (some none))))))))))
end K5
namespace K5
open PySem PySem.Spec PyProof.Rows L2 LamX K1 K18
def factB0 (K : PySem.W.Frag) : Bool :=
  freeNames.all (fun x => He.eqO (PySem.W.nsIn K mainGlobals x) (some none)) && (He.eqO (PySem.W.nsIn K mainGlobals "gcd") (some (some (.builtin "math.gcd"))) && (gloNames.all (fun x => He.eqO (PySem.W.nsIn K mainGlobals x) (some (some (.ref (He.ga K x))))) && ((He.Fa.str "DIGITS" "0123456789").ok K && ((He.Fa.str "LETTERS" "abcdefghijklmnopqrstuvwxyz").ok K && ((He.Fa.int "MOST_SIGNS" 12).ok K && (He.eqO (PySem.W.specialIn K (.builtin "object.__class__") "__get__") (some (some (.builtin "getset_descriptor.__get__"))) && (decide (PySem.W.takesIn K (.builtin "object.__class__") = some true) && (clsB K "Ratio"))))))))
end K5
namespace K5
open PySem PySem.Spec PyProof.Rows L2 LamX K1 K18
def factB1 (K : PySem.W.Frag) : Bool :=
  clsB K "HandOver" && (clsB K "Swap" && ((He.Fa.noat "Ratio" "top").ok K && ((He.Fa.noat "Ratio" "bottom").ok K && ((He.Fa.noat "HandOver" "giver").ok K && ((He.Fa.noat "HandOver" "taker").ok K && ((He.Fa.noat "HandOver" "cost").ok K && ((He.Fa.noat "HandOver" "gain").ok K && ((He.Fa.noat "Swap" "strangers").ok K))))))))
end K5
namespace K5
open PySem PySem.Spec PyProof.Rows L2 LamX K1 K18
def factB2 (K : PySem.W.Frag) : Bool :=
  (He.Fa.noat "Swap" "hands").ok K && ((He.Fa.noat "Swap" "nets").ok K && (decide (PySem.W.kitOne K (.ref (rC K)) (.type "int") = some false) && (decide (PySem.W.kitOne K (.type "int") (.ref (rC K)) = some false) && (ownPairs.all (fun p => ownB K p.1 p.2) && ((He.Fa.meth "HandOver" "effect").ok K && ((["over", "compared", "is_below"] : List Str).all (fun m => (He.Fa.meth "Ratio" m).ok K) && ((He.Fa.meth "Swap" "net").ok K && (PySem.W.selfFirst K (rC K)))))))))
end K5
namespace K5
open PySem PySem.Spec PyProof.Rows L2 LamX K1 K18
def factB3 (K : PySem.W.Frag) : Bool :=
  He.eqO (PySem.W.findIn K (.ref (rC K)) (dunderR Operator.Add.info.2)) (some none) && (He.eqO (PySem.W.findIn K (.ref (rC K)) (dunderR Operator.Sub.info.2)) (some none) && (He.eqO (PySem.W.findIn K (.ref (rC K)) (dunderR Operator.Mult.info.2)) (some none) && ((PySem.W.findIn K (.type "int") (PySem.dunder Operator.Mult.info.2)).isSome && ((PySem.W.findIn K (.type "int") (dunderR Operator.Mult.info.2)).isSome && (decide (PySem.W.subIn K (.type "int") (.ref (rC K)) = some false) && (!decide (tR K = tL K) && (propB K (rC K) "sign" && (PySem.W.readsIn K (rC K) (.type "type")))))))))
end K5
namespace K5
open PySem PySem.Spec PyProof.Rows L2 LamX K1 K18
def factB4 (K : PySem.W.Frag) : Bool :=
  He.eqO (PySem.W.specialIn K (.ref (rC K)) "__getattribute__") (some (some (.builtin "type.__getattribute__"))) && (He5.wrapB K (rC K) "staticmethod" "staticmethod.__get__" "of" && (PySem.W.readsIn K (sC K) (.type "type") && (He.eqO (PySem.W.specialIn K (.ref (sC K)) "__getattribute__") (some (some (.builtin "type.__getattribute__"))) && (cvB K "MOST_STRANGERS" 6 && (cvB K "MOST_HANDS" 40 && (PySem.W.fnIn K (He.ma K (sC K) "__getitem__") && ((["NoneType", "int", "str", "list"] : List String).all (fun t => decide (PySem.W.kitOne K (.type t) (.ref (sC K)) = some false)) && (errB K "BadSwap" ["part"]))))))))
end K5
namespace K5
open PySem PySem.Spec PyProof.Rows L2 LamX K1 K18
def factB5 (K : PySem.W.Frag) : Bool :=
  errB K "BadDone" ["part"] && (errB K "NoHand" ["number"] && (errB K "Twice" ["value"] && (errB K "Unlike" ["what"] && (errB K "TooMany" ["what", "most"] && (errB K "BadRow" ["part"] && (errB K "BadNumber" ["part"] && (errB K "NoStranger" ["name"] && (errB K "Loser" ["name"]))))))))
end K5
namespace K5
open PySem PySem.Spec PyProof.Rows L2 LamX K1 K18
def factB6 (K : PySem.W.Frag) : Bool :=
  ktPairs.all (fun p => decide (PySem.W.exmOne K (.ref (He.ga K p.1)) (.ref (He.ga K p.2.1)) = some p.2.2))
end K5
namespace K5
open PySem PySem.Spec PyProof.Rows L2 LamX K1 K18
def mkA (a : PySem.W.Frag → Addr) (name qual : Str) (st : Stmt) (dfl : List He.Dv := []) : He5.DefA := { at_ := a, name := name, qual := qual, params := defArgs st, body := defBody st, scope := defScope st, dfl := dfl }
end K5
namespace K5
open PySem PySem.Spec PyProof.Rows L2 LamX K1 K18
def topA (x : Str) (st : Stmt) : He5.DefA := mkA (fun K => He.ga K x) x x st
end K5
namespace K5
open PySem PySem.Spec PyProof.Rows L2 LamX K1 K18
def fns : List He5.DefA := [mkA (fun K => He.ma K (He.ga K "BadSwap") "__init__") "__init__" "BadSwap.__init__" (sIni 6),
  mkA (fun K => He.ma K (He.ga K "BadDone") "__init__") "__init__" "BadDone.__init__" (sIni 8),
  mkA (fun K => He.ma K (He.ga K "NoHand") "__init__") "__init__" "NoHand.__init__" (sIni 12),
  mkA (fun K => He.ma K (He.ga K "Twice") "__init__") "__init__" "Twice.__init__" (sIni 13),
  mkA (fun K => He.ma K (He.ga K "Unlike") "__init__") "__init__" "Unlike.__init__" (sIni 14),
  mkA (fun K => He.ma K (He.ga K "TooMany") "__init__") "__init__" "TooMany.__init__" (sIni 16),
  mkA (fun K => He.ma K (He.ga K "BadRow") "__init__") "__init__" "BadRow.__init__" (sIni 7),
  mkA (fun K => He.ma K (He.ga K "BadNumber") "__init__") "__init__" "BadNumber.__init__" (sIni 9),
  mkA (fun K => He.ma K (He.ga K "NoStranger") "__init__") "__init__" "NoStranger.__init__" (sIni 11),
  mkA (fun K => He.ma K (He.ga K "Loser") "__init__") "__init__" "Loser.__init__" (sIni 15),
  mkA (fun K => gP K (rC K) "sign") "sign" "Ratio.sign" sRSign,
  mkA (fun K => He5.wf K (rC K) "staticmethod" "of") "of" "Ratio.of" sROf,
  mkA (fun K => He.ma K (He.ga K "Ratio") "__init__") "__init__" "Ratio.__init__" sRInit [.int 1],
  mkA (fun K => He.ma K (He.ga K "Ratio") "__add__") "__add__" "Ratio.__add__" sRAdd,
  mkA (fun K => He.ma K (He.ga K "Ratio") "__sub__") "__sub__" "Ratio.__sub__" sRSub,
  mkA (fun K => He.ma K (He.ga K "Ratio") "__mul__") "__mul__" "Ratio.__mul__" sRMul,
  mkA (fun K => He.ma K (He.ga K "Ratio") "__neg__") "__neg__" "Ratio.__neg__" sRNeg,
  mkA (fun K => He.ma K (He.ga K "Ratio") "over") "over" "Ratio.over" sROver,
  mkA (fun K => He.ma K (He.ga K "Ratio") "compared") "compared" "Ratio.compared" sRCmp,
  mkA (fun K => He.ma K (He.ga K "Ratio") "is_below") "is_below" "Ratio.is_below" sRBelow,
  mkA (fun K => He.ma K (He.ga K "HandOver") "__init__") "__init__" "HandOver.__init__" sHInit,
  mkA (fun K => He.ma K (He.ga K "HandOver") "effect") "effect" "HandOver.effect" sHEff,
  mkA (fun K => He.ma K (He.ga K "Swap") "__init__") "__init__" "Swap.__init__" sSInit,
  mkA (fun K => He.ma K (He.ga K "Swap") "__len__") "__len__" "Swap.__len__" sSLen,
  mkA (fun K => He.ma K (He.ga K "Swap") "__getitem__") "__getitem__" "Swap.__getitem__" sSItem,
  mkA (fun K => He.ma K (He.ga K "Swap") "net") "net" "Swap.net" sSNet,
  topA "is_integer" sIsInt,
  topA "is_within" sWithin,
  topA "is_listed" sListed,
  topA "are_integers" sAreInts,
  topA "is_name" sName,
  topA "are_names" sAreNames,
  topA "check_none_twice" sNoneTwice,
  topA "hands_told" sHands,
  topA "check_hand" sHand,
  topA "is_row" sIsRow,
  topA "row_told" sRowTold,
  topA "_right" sRight,
  topA "is_ratio" sIsRatio,
  topA "is_amount" sIsAmount,
  topA "_are_ratios" sAreRatios,
  topA "added" sAdded,
  topA "_check_parties" sParties,
  topA "_net_of" sNetOf,
  topA "check_swap" sCheckSwap,
  topA "check_stranger" sStranger,
  topA "along" sAlong,
  topA "_line_behind" sLineB,
  topA "begun_at" sBegun,
  topA "spared" sSpared,
  topA "bound_to" sBound,
  topA "_above_road" sAbove,
  topA "_least_place" sLeast,
  topA "_law_vane" sVane,
  topA "_law_blow" sBlow,
  topA "_law_some" sSome,
  topA "_law_drawn" sDrawn,
  topA "_law_made" sMade,
  topA "_law_along" sLAlong,
  topA "_law_order" sOrder,
  topA "_law_begun" sLBegun,
  topA "_law_places" sPlaces,
  topA "_law_stranger_right" sStrRight,
  topA "_law_fault" sFault,
  topA "_law_bad_row" sBadRow,
  topA "_law_refused_right" sRefused,
  topA "_law_loses" sLoses,
  topA "_law_pair_right" sPair,
  topA "law" sLaw]
end K5
namespace K5
open PySem PySem.Spec PyProof.Rows L2 LamX K1 K18
def loose0 : List PySem.Str := ["_wall", "LastError", "BadRatio", "BadHandOver", "BadSwap", "BadRow", "BadDone", "BadNumber", "Missing", "NoStranger", "NoHand", "Twice", "Unlike", "Loser", "TooMany", "BadText", "LETTERS", "DIGITS", "MOST_SIGNS", "MOST_DIGITS"]
end K5
namespace K5
open PySem PySem.Spec PyProof.Rows L2 LamX K1 K18
def loose1 : List PySem.Str := ["is_integer", "is_within", "is_name", "is_listed", "are_integers", "are_names", "check_none_twice", "hands_told", "check_hand", "is_row", "row_told", "words_of", "word_at", "check_end", "integer_in", "Ratio", "_right", "is_ratio", "is_amount", "added"]
end K5
namespace K5
open PySem PySem.Spec PyProof.Rows L2 LamX K1 K18
def loose2 : List PySem.Str := ["_are_ratios", "ratio_in", "amount_at", "HandOver", "Swap", "check_swap", "check_stranger", "_check_parties", "_net_of", "_scaled_hand", "_party_at", "_hand_at", "_strangers_at_start", "swap_at_start", "along", "_line_behind", "begun_at", "spared", "bound_to", "_above_road"]
end K5
namespace K5
open PySem PySem.Spec PyProof.Rows L2 LamX K1 K18
def loose3 : List PySem.Str := ["_least_place", "_law_vane", "_law_blow", "_law_some", "_law_drawn", "_law_made", "_law_along", "_law_order", "_law_begun", "_law_places", "_law_stranger_right", "_law_fault", "_law_bad_row", "_law_refused_right", "_law_loses", "_law_pair_right"]
end K5
namespace K5
open PySem PySem.Spec PyProof.Rows L2 LamX K1 K18
def loose : List PySem.Str := loose0 ++ (loose1 ++ (loose2 ++ loose3))
end K5
namespace K5
open PySem PySem.Spec PyProof.Rows L2 LamX K1 K18
abbrev RR : PySem.W.OpenRow := PySem.W.OpenLaw.row PySem.Challenge.rw_lastgiver_k44_one_stranger_spared_of_all
end K5
namespace K5
open PySem PySem.Spec PyProof.Rows L2 LamX K1 K18
noncomputable abbrev wf (w : World) : Option (Shared × PySem.W.SharedT) := HandSHeadRun.wholeF (fun p => HandSHeadRun.stepQ (HandSHeadRun.denQ HandSHeadRun.tabQ) p w) HandSHeadRun.fenceQ 40000 RR.prog
end K5
namespace K5
open PySem PySem.Spec PyProof.Rows L2 LamX K1 K18
abbrev sq (s : Shared) : Bool := PySem.W.xlAt (PySem.W.view RR.prog [0, 84]) [] s && PySem.W.recOk RR.toRowW.records s
end K5
namespace K5
open PySem PySem.Spec PyProof.Rows L2 LamX K1 K18
/-- the addresses that are looked at -/
def adl : List Addr := [3, 6, 4, 49, 59, 79, 98, 117, 136, 155, 174, 193, 212, 231, 250, 269, 288, 307, 326, 335, 342, 347, 354, 359, 364, 371, 378, 385, 392, 399, 406, 413, 420, 425, 563, 574, 581, 588, 595, 600, 607, 614, 669, 798, 809, 816, 823, 828, 835, 842, 849, 856, 863, 868, 873, 880, 887, 892, 897, 904, 909, 916, 923, 930, 937, 944, 951, 958, 963, 970, 977, 982, 989, 996, 1001, 1006, 0, 48, 58, 78, 97, 116, 135, 154, 173, 192, 211, 230, 249, 268, 287, 306, 325, 334, 341, 346, 353, 358, 363, 370, 377, 384, 391, 398, 405, 412, 419, 424, 562, 573, 580, 587, 594, 599, 606, 613, 668, 797, 808, 815, 822, 827, 834, 841, 848, 855, 862, 867, 872, 879, 886, 891, 896, 903, 908, 915, 922, 929, 936, 943, 950, 957, 962, 969, 976, 981, 988, 995, 1000, 1005, 43, 44, 45, 46, 47, 57, 60, 76, 77, 95, 96, 114, 115, 133, 134, 152, 153, 171, 172, 190, 191, 209, 210, 228, 229, 247, 248, 266, 267, 285, 286, 304, 305, 323, 324, 329, 330, 331, 332, 333, 336, 337, 338, 339, 340, 343, 344, 345, 348, 349, 350, 351, 352, 355, 356, 357, 360, 361, 362, 365, 366, 367, 368, 369, 372, 373, 374, 375, 376, 379, 380, 381, 382, 383, 386, 387, 388, 389, 390, 393, 394, 395, 396, 397, 400, 401, 402, 403, 404, 407, 408, 409, 410, 411, 414, 415, 416, 417, 418, 421, 422, 423, 440, 448, 456, 463, 470, 477, 484, 491, 498, 505, 512, 519, 526, 533, 540, 549, 559, 561, 564, 565, 568, 569, 570, 571, 572, 575, 576, 577, 578, 579, 582, 583, 584, 585, 586, 589, 590, 591, 592, 593, 596, 597, 598, 601, 602, 603, 604, 605, 608, 609, 610, 611, 612, 628, 635, 642, 649, 656, 665, 667, 670, 671, 685, 693, 701, 709, 716, 723, 730, 737, 744, 751, 756, 763, 768, 773, 784, 794, 796, 799, 800, 803, 804, 805, 806, 807, 810, 811, 812, 813, 814, 817, 818, 819, 820, 821, 824, 825, 826, 829, 830, 831, 832, 833, 836, 837, 838, 839, 840, 843, 844, 845, 846, 847, 850, 851, 852, 853, 854, 857, 858, 859, 860, 861, 864, 865, 866, 869, 870, 871, 874, 875, 876, 877, 878, 881, 882, 883, 884, 885, 888, 889, 890, 893, 894, 895, 898, 899, 900, 901, 902, 905, 906, 907, 910, 911, 912, 913, 914, 917, 918, 919, 920, 921, 924, 925, 926, 927, 928, 931, 932, 933, 934, 935, 938, 939, 940, 941, 942, 945, 946, 947, 948, 949, 952, 953, 954, 955, 956, 959, 960, 961, 964, 965, 966, 967, 968, 971, 972, 973, 974, 975, 978, 979, 980, 983, 984, 985, 986, 987, 990, 991, 992, 993, 994, 997, 998, 999, 1002, 1003, 1004, 75, 94, 113, 132, 151, 170, 189, 208, 227, 246, 265, 284, 303, 322, 439, 433, 447, 455, 462, 469, 476, 483, 490, 497, 504, 511, 518, 525, 532, 539, 547, 548, 557, 558, 627, 634, 641, 648, 655, 663, 664, 684, 692, 700, 708, 715, 722, 729, 736, 743, 750, 755, 762, 767, 772, 782, 783, 792, 793, 70, 71, 72, 73, 74, 89, 90, 91, 92, 93, 108, 109, 110, 111, 112, 127, 128, 129, 130, 131, 146, 147, 148, 149, 150, 165, 166, 167, 168, 169, 184, 185, 186, 187, 188, 203, 204, 205, 206, 207, 222, 223, 224, 225, 226, 241, 242, 243, 244, 245, 260, 261, 262, 263, 264, 279, 280, 281, 282, 283, 298, 299, 300, 301, 302, 317, 318, 319, 320, 321, 434, 435, 436, 437, 438, 446, 454, 457, 458, 459, 460, 461, 464, 465, 466, 467, 468, 471, 472, 473, 474, 475, 478, 479, 480, 481, 482, 485, 486, 487, 488, 489, 492, 493, 494, 495, 496, 499, 500, 501, 502, 503, 506, 507, 508, 509, 510, 513, 514, 515, 516, 517, 520, 521, 522, 523, 524, 527, 528, 529, 530, 531, 534, 535, 536, 537, 538, 546, 550, 556, 560, 622, 623, 624, 625, 626, 629, 630, 631, 632, 633, 636, 637, 638, 639, 640, 643, 644, 645, 646, 647, 650, 651, 652, 653, 654, 662, 666, 681, 682, 683, 691, 699, 707, 710, 711, 712, 713, 714, 717, 718, 719, 720, 721, 724, 725, 726, 727, 728, 731, 732, 733, 734, 735, 738, 739, 740, 741, 742, 745, 746, 747, 748, 749, 752, 753, 754, 757, 758, 759, 760, 761, 764, 765, 766, 769, 770, 771, 781, 774, 775, 785, 791, 795, 2]
end K5
namespace K5
open PySem PySem.Spec PyProof.Rows L2 LamX K1 K18
abbrev oF (s : PySem.W.SharedT) : PySem.W.Frag := He.frT (HandSHeadRun.getT s) adl
end K5
namespace K5
open PySem PySem.Spec PyProof.Rows L2 LamX K1 K18
def factAll (K : PySem.W.Frag) : Bool := factB0 K && (factB1 K && (factB2 K && (factB3 K && (factB4 K && (factB5 K && (factB6 K))))))
end K5
namespace K5
open PySem PySem.Spec PyProof.Rows L2 LamX K1 K18
def tab1 (g : Addr → Option Obj) (K : PySem.W.Frag) (c T : Addr) : Bool := PySem.W.codeHdIn K c T && (match g T with
  | some o => He.emptyTab o
  | none => false)
end K5
namespace K5
open PySem PySem.Spec PyProof.Rows L2 LamX K1 K18
def tabE (g : Addr → Option Obj) (K : PySem.W.Frag) : Bool := tab1 g K (cR K) (tR K) && tab1 g K (cL K) (tL K)
end K5
namespace K5
open PySem PySem.Spec PyProof.Rows L2 LamX K1 K18
theorem runAll (w : World) : (wf w).map (fun x => (HandSHeadRun.looksF RR.prog x.1.heap x.2.abs, HandSHeadRun.seenQ (PySem.W.view RR.prog [0, 84]) loose (importedModules RR.prog.main.body) sq x.2.abs, factAll (oF x.2), He5.obsA [] fns (oF x.2), tabE (HandSHeadRun.getT x.2) (oF x.2))) = some (true, PySem.W.openGood (PySem.W.view RR.prog [0, 84]) loose, true, He5.valA fns, true) := by kernel_rfl
end K5
/-! Operators, abs, truth, == of an own class; a static method: rules over the layer. -/
namespace K1
open PySem PySem.Spec PyProof.Rows L2

section
open PySem.W PySem.Calls
variable {prog : Program} {w : World} {A : Around} {E : Value → Shared → Prop} {s : Shared} {K : Frag} {x C L f : Addr} {h0 : Heap} {m : Str → Option Value} {ox : Obj} {od : Option Obj} {T : String}
/-- o op b, b of a built-in class that a look at the heap tells -/
theorem bin_look {op : Operator} {b : Value} {fo ro rc : Option Value} {Q : Value → Shared → Prop} (F : Fr h0 L s.heap m) (X0 : K.In h0) (I : InstAt s.heap x ox C od) (hb : ∀ h', (∀ a o, s.heap.get? a = some o → h'.get? a = some o) → Looks (model prog w) h' (typeOf b) (.type T))
    (hc : selfFirst K C = true) (hs : findIn K (.ref C) (PySem.dunder op.info.2) = some (some (.ref f))) (hf : isFn K (.ref f) = true) (hr : findIn K (.ref C) (dunderR op.info.2) = some rc) (hp : rc = none ∨ ∃ g : Addr, rc = some (.ref g))
    (t1 : findIn K (.type T) (PySem.dunder op.info.2) = some fo) (t2 : findIn K (.type T) (dunderR op.info.2) = some ro) (ts : subIn K (.type T) (.ref C) = some false)
    (h : wpAny (model prog w) A (call (.ref f) [.ref x, b]) (PySem.W.CmpBack Q) E s) : wpAny (model prog w) A (binaryOp op (.ref x) b) Q E s := by
  have KX := X0.keeps F.keep
  obtain ⟨cd, rest, c1, c2⟩ := ksp_first hc
  rcases e : op.info with ⟨sy, n⟩
  rw [e] at hs hr t1 t2
  dsimp only at hs hr t1 t2
  have done := ksp_try KX I hs hf h
  have hb1 := hb s.heap fun _ _ z => z
  obtain ⟨hh, g, d, tt, os⟩ := s
  have k1 : Looks (model prog w) hh (typeOf (.ref x)) (.ref C) := I.type
  have k2 : Looks (model prog w) hh (typeOf b) (.type T) := hb1
  have k3 : Looks (model prog w) hh (fillsNumberSlot (.ref C) n) true := fills_K KX c1 c2 hs
  obtain ⟨rt, k4⟩ : ∃ rt, Looks (model prog w) hh (fillsNumberSlot (.type T) n) rt := ⟨_, ksp_fillsT KX t1 t2⟩
  have k5 : Looks (model prog w) hh (isSubtype (.type T) (.ref C)) false := looks_subIn KX ts
  have k6 : Looks (model prog w) hh (numberSlotInPython (.ref C) n) true := ksp_inPy KX hs hr hp
  have k7 : Looks (model prog w) hh (numberSlotInPython (.type T) n) false := Looks.of_pure rfl
  have k8 : Looks (model prog w) hh (typeLookup (.type T) (dunderR n)) ro := looks_findIn KX t2
  have ne : (Value.ref C == Value.type T) = false := Bool.eq_false_iff.mpr fun q => by cases beq_iff_eq.mp q
  simp only [binaryOp, e]
  refine wpAny_holding (wpAny_bind ?_)
  unfold binaryOp1
  refine wpAny_bind (k1.at (wpAny_bind (k2.at (wpAny_bind (k3.at ?_)))))
  simp only [ne, Bool.false_eq_true, if_false]
  cases rt <;>
  · ksp_lk
    refine wpAny_mono done (fun r s' z => ?_) fun _ _ q => q
    obtain ⟨v, rfl, hq⟩ := z
    ksp_lk
    exact hq
theorem abs_own {Q : Value → Shared → Prop} (X : K.In s.heap) (I : InstAt s.heap x ox C od) (hs : findIn K (.ref C) "__abs__" = some (some (.ref f))) (hf : isFn K (.ref f) = true)
    (h : wpAny (model prog w) A.in1 (call (.ref f) [.ref x]) Q E s) : wpAny (model prog w) A (call (.builtin "abs") [.ref x]) Q E s := by
  refine call_function_entry kind_abs plain_abs entry_abs (args_abs _) ?_
  unfold Builtin.«abs»
  refine wpAny_bind (m := oneArg "abs" _) (wpAny_pure ?_)
  refine wpAny_bind (m := callSpecial? (.ref x) (Str.ofString "__abs__")) (special_fn X I hs (beq_iff_eq.mp hf) (wpAny_mono h (fun r s' hr => ?_) fun _ _ y => y))
  exact wpAny_pure ⟨_, rfl, hr⟩
end

/-! ### over the layer -/
section
variable {X : Cx} {pins : List (Addr × Obj)} {σ : L2.St} {H : Hp} {s s' : Shared} {Q : VK}
theorem ep_back {u : Value} (h : EP X pins σ Q u s') : PySem.W.CmpBack (EP X pins σ Q) u s' := by
  cases u with
  | notImplemented =>
    obtain ⟨v, H', I, r, q⟩ := h
    exfalso
    cases v <;> first | exact nomatch (r : Value.notImplemented = _) | (have z : ∃ t, Value.notImplemented = _ := r; obtain ⟨t, e⟩ := z; exact nomatch e)
  | _ => exact h
/-- the type of a value, looked up -/
theorem ty_look {M : Model} {x : V} {u t : Value} (I : Inv X pins σ H s) (rx : RelV x u) (ty : TyOf X.K H x t) : PySem.W.Looks M s.heap (typeOf u) t := by
  cases ty with
  | non => cases (show u = Value.none from rx); exact PySem.W.Looks.of_pure rfl
  | bl y => cases (show u = Value.bool y from rx); exact PySem.W.Looks.of_pure rfl
  | int i => obtain ⟨t, q⟩ := (show ∃ t, u = Value.int i t from rx); cases q; exact PySem.W.Looks.of_pure rfl
  | str y => obtain ⟨t, q⟩ := (show ∃ t, u = Value.str y t from rx); cases q; exact PySem.W.Looks.of_pure rfl
  | flt y => obtain ⟨t, q⟩ := (show ∃ t, u = Value.float y t from rx); cases q; exact PySem.W.Looks.of_pure rfl
  | @lst a xs ea =>
    cases (show u = Value.ref a from rx)
    obtain ⟨_, _, n, _, h1⟩ := (show ObjOk X.prog X.w H s.heap a (.lst xs) from I.hok a _ ea)
    exact (PySem.W.Looks.ld (part := none) h1).andThen .now
  | @frz a ob xs ea =>
    cases (show u = Value.ref a from rx)
    obtain ⟨_, _, _, n, _, h1⟩ := (show ObjOk X.prog X.w H s.heap a (.frz ob (.lst xs)) from I.hok a _ ea)
    exact (PySem.W.Looks.ld (part := none) h1).andThen .now
  | @tup a xs ea =>
    cases (show u = Value.ref a from rx)
    obtain ⟨_, _, _, o, h1, h2, _⟩ := (show ObjOk X.prog X.w H s.heap a (.tup xs) from I.hok a _ ea)
    rw [← h2]
    exact (PySem.W.Looks.ld (part := none) h1).andThen .now
  | @dK a kvs ea =>
    cases (show u = Value.ref a from rx)
    obtain ⟨_, _, vs, _, o, es, ep, h1, h2, _⟩ := (show ObjOk X.prog X.w H s.heap a (.dK kvs) from I.hok a _ ea)
    rw [← h2.1]
    exact (PySem.W.Looks.ld (part := none) h1).andThen .now
  | @dT a kvs ea =>
    cases (show u = Value.ref a from rx)
    obtain ⟨_, _, xs, _, o, es, ep, h1, h2, _⟩ := (show ObjOk X.prog X.w H s.heap a (.dT kvs) from I.hok a _ ea)
    rw [← h2.1]
    exact (PySem.W.Looks.ld (part := none) h1).andThen .now
  | @ins a C dx fs ea cl ha hn htk hm =>
    cases (show u = Value.ref a from rx)
    obtain ⟨mA, O, _⟩ := ins_get I.hok ea
    obtain ⟨od, J, _⟩ := O.look
    exact J.type
end

/-- an own operator's def: where it is found -/
structure OwnM (K : PySem.W.Frag) (C : Addr) (nm : Str) (f : Addr) : Prop where
  at_ : PySem.W.findIn K (.ref C) nm = some (some (.ref f))
  fn : PySem.W.isFn K (.ref f) = true
/-- what stands at the right: an instance of the class itself, or a value of a built-in class with these facts -/
def RightO (K : PySem.W.Frag) (C : Addr) (op : Operator) (y : V) (H : Hp) : Prop :=
  (∃ a dx fs, y = .ref a ∧ H a = some (.ins C dx fs)) ∨ ∃ (T : String) (fo ro : Option Value), TyOf K H y (.type T) ∧ PySem.W.findIn K (.type T) (PySem.dunder op.info.2) = some fo ∧ PySem.W.findIn K (.type T) (dunderR op.info.2) = some ro ∧ PySem.W.subIn K (.type T) (.ref C) = some false
/-- x op y: the def's promise at the two -/
def rOwn (K : PySem.W.Frag) (C : Addr) (op : Operator) (sp : Sp) (E : XK) : R2 := fun x y H Q => ∃ a dx fs, x = .ref a ∧ H a = some (.ins C dx fs) ∧ RightO K C op y H ∧ sp [x, y] H Q E
section
variable {X : Cx} {CX : CXT} {k : Nat} {C f : Addr} {fd : FuncData} {ps : List Str} {sp : Sp} {E : XK}
theorem op_own {op : Operator} (M : OwnM X.K C (PySem.dunder op.info.2) f) (c1 : PySem.W.selfFirst X.K C = true) (c2 : PySem.W.findIn X.K (.ref C) (dunderR op.info.2) = some none)
    (F : FnOk X.prog X.w X.K X.mg X.base CX k f fd ps sp) (hr : Room k X.A) (hb : Binds X.K fd ps []) (hx : Passes CX X E) : OpR X (binaryOp op) (rOwn X.K C op sp E) := by
  intro pins s σ H x y v u Q I rx ry h
  obtain ⟨a, dx, fs, rfl, ha, hy, hs⟩ := h
  obtain rfl : v = Value.ref a := rx
  obtain ⟨mA, O, _⟩ := ins_get I.hok ha
  obtain ⟨od, J, _⟩ := O.look
  obtain ⟨m, hF⟩ := I.fr
  have run : wpAny (model X.prog X.w) X.A (call (.ref f) [.ref a, u]) (PySem.W.CmpBack (EP X pins σ Q)) X.xe s :=
    thn (run_fn (us := [.ref a, u]) (vs := [.ref a, y]) (dvs := []) F hr hb .nil hx I (.cons rfl (.cons ry .nil)) (by rw [List.append_nil]; exact hs)) fun _ _ z => ep_back z
  rcases hy with ⟨b, dy, gs, rfl, hb'⟩ | ⟨T, fo, ro, ty, t1, t2, t3⟩
  · obtain rfl : u = Value.ref b := ry
    obtain ⟨mB, O', _⟩ := ins_get I.hok hb'
    obtain ⟨od', J', _⟩ := O'.look
    exact PySem.W.binop_K hF I.ok.mod.kin J J'.type c1 M.at_ M.fn run
  · exact bin_look hF I.ok.mod.kin J (fun h' kp => (ty_look I ry ty).keeps kp) c1 M.at_ M.fn c2 (.inl rfl) t1 t2 t3 run
/-- -x -/
theorem un_own (M : OwnM X.K C "__neg__" f) (F : FnOk X.prog X.w X.K X.mg X.base CX k f fd ps sp) (hr : Room k X.A) (hb : Binds X.K fd ps []) (hx : Passes CX X E) :
    UnR X (unaryOp .USub) (fun x H Q => ∃ a dx fs, x = .ref a ∧ H a = some (.ins C dx fs) ∧ sp [x] H Q E) := by
  intro pins s σ H x v Q I rx h
  obtain ⟨a, dx, fs, rfl, ha, hs⟩ := h
  obtain rfl : v = Value.ref a := rx
  obtain ⟨mA, O, _⟩ := ins_get I.hok ha
  obtain ⟨od, J, _⟩ := O.look
  obtain ⟨m, hF⟩ := I.fr
  exact PySem.W.ksp_neg hF I.ok.mod.kin J M.at_ M.fn (run_fn (us := [.ref a]) (vs := [.ref a]) (dvs := []) F hr hb .nil hx I (.cons rfl .nil) (by rw [List.append_nil]; exact hs))
/-- abs(x) -/
theorem call_absO (M : OwnM X.K C "__abs__" f) (F : FnOk X.prog X.w X.K X.mg X.base CX k f fd ps sp) (hr : Room (k + 1) X.A) (hb : Binds X.K fd ps []) (hx : Passes CX X.nox E) :
    CallR X (.builtin "abs") (fun xs H Q => ∃ a dx fs, xs = [.ref a] ∧ H a = some (.ins C dx fs) ∧ sp [.ref a] H Q E) := by
  intro pins s σ H xs us Q I r h
  obtain ⟨a, dx, fs, rfl, ha, hs⟩ := h
  obtain ⟨u, rfl, ru⟩ := vals1 r
  obtain rfl : u = Value.ref a := ru
  obtain ⟨mA, O, _⟩ := ins_get I.hok ha
  obtain ⟨od, J, _⟩ := O.look
  have hl := F.len _ _ _ _ hs
  refine abs_own I.kIn J M.at_ M.fn (wpAny_call (codeAny_mono (F.run X.A.in1 X.stack s H ⟨[.ref a], []⟩ [.ref a] [.ref a] Q E hr.in1 I.env0.in1 (by
    have z := hb s [.ref a] I.kIn (by simpa using hl)
    simpa using z) (.cons rfl .nil) hs) fun r s' hq => ?_))
  cases r with
  | error e => exact False.elim (hx pins σ H s e s' (I.wish _) hq)
  | ok fl =>
    cases fl with
    | ret w => exact I.after hq
    | next => exact False.elim hq
    | brk => exact False.elim hq
    | cont => exact False.elim hq
/-- x as a test, an own __bool__ that tells a truth -/
theorem tru_own (M : OwnM X.K C "__bool__" f) (F : FnOk X.prog X.w X.K X.mg X.base CX k f fd ps sp) (hr : Room k X.A) (hb : Binds X.K fd ps []) (hx : Passes CX X E) :
    TruR X (fun x H Q => ∃ a dx fs, x = .ref a ∧ H a = some (.ins C dx fs) ∧ sp [x] H (fun v H' => ∃ b, v = .bl b ∧ Q b H') E) := by
  intro pins s σ H x v Q I rx h
  obtain ⟨a, dx, fs, rfl, ha, hs⟩ := h
  obtain rfl : v = Value.ref a := rx
  obtain ⟨mA, O, _⟩ := ins_get I.hok ha
  obtain ⟨od, J, _⟩ := O.look
  obtain ⟨m, hF⟩ := I.fr
  refine PySem.W.truthy_K hF I.ok.mod.kin J M.at_ M.fn (thn (run_fn (us := [.ref a]) (vs := [.ref a]) (dvs := []) F hr hb .nil hx I (.cons rfl .nil) (by rw [List.append_nil]; exact hs)) fun u s' z => ?_)
  obtain ⟨w', H', I', rw', b, rfl, q⟩ := z
  obtain rfl : u = Value.bool b := rw'
  exact ⟨H', I', q⟩
end
end K1

namespace K1
open PySem PySem.Spec PyProof.Rows L2

section
open PySem.W PySem.Calls
variable {prog : Program} {w : World} {A : Around} {E : Value → Shared → Prop} {s : Shared} {K : Frag} {x C f : Addr} {ox : Obj} {od : Option Obj}
/-- bool(o), an own __bool__ -/
theorem bool_own {Q : Value → Shared → Prop} {h0 : Heap} {L : Addr} {m : Str → Option Value} (F : Fr h0 L s.heap m) (X0 : K.In h0) (I : InstAt s.heap x ox C od) (hs : findIn K (.ref C) "__bool__" = some (some (.ref f))) (hf : isFn K (.ref f) = true)
    (h : wpAny (model prog w) A.in1.in1 (call (.ref f) [.ref x]) (PySem.W.BoolBack fun b s' => Q (.bool b) s') E s) : wpAny (model prog w) A (call (.type "bool") [.ref x]) Q E s := by
  refine callType_codes (T := "bool") (Bi := Builtin.«object.__init__») (Q₁ := fun r s₁ => ∃ b, r = .bool b ∧ Q r s₁) PySem.F.called_bool (PySem.F.typeCall_bool_1 _) PySem.F.entry_object_init ?_ ?_
  · refine codeAny_of_tree ?_
    show wpAny _ _ (do checkBuiltinCall "bool.__new__" ⟨[.type "bool", .ref x], []⟩; again (.builtin "bool.__new__" ⟨[.type "bool", .ref x], []⟩)) _ _ s
    refine wpAny_bind (wpAny_of_eq (PySem.F.newCall_bool_1 _) (wpAny_pure ⟨plainId_quiet (by decide +kernel) _, codeAny_builtin PySem.F.entry_bool_new ?_⟩))
    rw [Around.under_plainId (by decide +kernel) _]
    unfold Builtin.«bool.__new__»
    have f1 := PySem.F.conv_sub_bool
    have tr : ∀ {P : Bool → Shared → Prop} {E2 : Value → Shared → Prop}, (∀ b s', Q (.bool b) s' → P b s') → (∀ e s', E e s' → E2 e s') → wpAny (model prog w) A.in1.in1 (truthy (.ref x)) P E2 s := fun p e => wpAny_mono (truthy_K F X0 I hs hf h) p e
    clear h hs hf I X0 F
    obtain ⟨hp, g, d, tk, os⟩ := s
    repeat (any_goals (first | assumption | (with_reducible refine tr (fun b s' hb => ?_) (fun e s' he => ?_)) | wp_step))
    all_goals first | exact ⟨_, rfl, hb⟩ | exact he | skip
  · rintro obj s₁ ⟨b, rfl, hq⟩
    exact ⟨rfl, PySem.F.args_object_init_2 _ _, object_init_meets PySem.F.called_bool.init.lookup PySem.F.called_bool.made (by decide) prog w A.in1 _ s₁ ⟨rfl, rfl, hq⟩⟩
end

section
variable {X : Cx} {CX : CXT} {k : Nat} {C f : Addr} {fd : FuncData} {ps : List Str} {sp : Sp} {E : XK}
/-- bool(x) -/
theorem call_boolO (M : OwnM X.K C "__bool__" f) (F : FnOk X.prog X.w X.K X.mg X.base CX k f fd ps sp) (hr : Room (k + 2) X.A) (hb : Binds X.K fd ps []) (hx : Passes CX X.nox E) :
    CallR X (.type "bool") (fun xs H Q => ∃ a dx fs, xs = [.ref a] ∧ H a = some (.ins C dx fs) ∧ sp [.ref a] H (fun v H' => ∃ b, v = .bl b ∧ Q (.bl b) H') E) := by
  intro pins s σ H xs us Q I r h
  obtain ⟨a, dx, fs, rfl, ha, hs⟩ := h
  obtain ⟨u, rfl, ru⟩ := vals1 r
  obtain rfl : u = Value.ref a := ru
  obtain ⟨mA, O, _⟩ := ins_get I.hok ha
  obtain ⟨od, J, _⟩ := O.look
  obtain ⟨m, hF⟩ := I.fr
  have hl := F.len _ _ _ _ hs
  refine bool_own hF I.ok.mod.kin J M.at_ M.fn (wpAny_call (codeAny_mono (F.run X.A.in1.in1 X.stack s H ⟨[.ref a], []⟩ [.ref a] [.ref a] _ E hr.in1.in1 I.env0.in1.in1 (by
    have z := hb s [.ref a] I.kIn (by simpa using hl)
    simpa using z) (.cons rfl .nil) hs) fun r s' hq => ?_))
  cases r with
  | error e => exact False.elim (hx pins σ H s e s' (I.wish _) hq)
  | ok fl =>
    cases fl with
    | ret u =>
      obtain ⟨v, H2, I2, rv, b, rfl, q⟩ := I.after hq
      obtain rfl : u = Value.bool b := rv
      exact ⟨.bl b, H2, I2, rfl, q⟩
    | next => exact False.elim hq
    | brk => exact False.elim hq
    | cont => exact False.elim hq
/-- repr(x) -/
theorem call_reprO (M : OwnM X.K C "__repr__" f) (F : FnOk X.prog X.w X.K X.mg X.base CX k f fd ps sp) (hr : Room (k + 1) X.A) (hb : Binds X.K fd ps []) (hx : Passes CX X.nox E) :
    CallR X (.builtin "repr") (fun xs H Q => ∃ a dx fs, xs = [.ref a] ∧ H a = some (.ins C dx fs) ∧ sp [.ref a] H (fun v H' => ∃ t, v = .str t ∧ Q (.str t) H') E) := by
  intro pins s σ H xs us Q I r h
  obtain ⟨a, dx, fs, rfl, ha, hs⟩ := h
  obtain ⟨u, rfl, ru⟩ := vals1 r
  obtain rfl : u = Value.ref a := ru
  obtain ⟨mA, O, _⟩ := ins_get I.hok ha
  obtain ⟨od, J, _⟩ := O.look
  obtain ⟨m, hF⟩ := I.fr
  have hl := F.len _ _ _ _ hs
  have un := hr.in1.un
  refine PySem.W.repr_K (by omega) hF I.ok.mod.kin J M.at_ M.fn (wpAny_call (codeAny_mono (F.run X.A.in1 X.stack s H ⟨[.ref a], []⟩ [.ref a] [.ref a] _ E hr.in1 I.env0.in1 (by
    have z := hb s [.ref a] I.kIn (by simpa using hl)
    simpa using z) (.cons rfl .nil) hs) fun r s' hq => ?_))
  cases r with
  | error e => exact False.elim (hx pins σ H s e s' (I.wish _) hq)
  | ok fl =>
    cases fl with
    | ret u =>
      obtain ⟨v, H2, I2, rv, t, rfl, q⟩ := I.after hq
      obtain ⟨tk, rfl⟩ := rv
      exact ⟨.str t, H2, I2, ⟨tk, rfl⟩, q⟩
    | next => exact False.elim hq
    | brk => exact False.elim hq
    | cont => exact False.elim hq
/-- str(x) -/
theorem call_strO (M : OwnM X.K C "__str__" f) (F : FnOk X.prog X.w X.K X.mg X.base CX k f fd ps sp) (hr : Room (k + 2) X.A) (hb : Binds X.K fd ps []) (hx : Passes CX X.nox E) :
    CallR X (.type "str") (fun xs H Q => ∃ a dx fs, xs = [.ref a] ∧ H a = some (.ins C dx fs) ∧ sp [.ref a] H (fun v H' => ∃ t, v = .str t ∧ Q (.str t) H') E) := by
  intro pins s σ H xs us Q I r h
  obtain ⟨a, dx, fs, rfl, ha, hs⟩ := h
  obtain ⟨u, rfl, ru⟩ := vals1 r
  obtain rfl : u = Value.ref a := ru
  obtain ⟨mA, O, _⟩ := ins_get I.hok ha
  obtain ⟨od, J, _⟩ := O.look
  have hl := F.len _ _ _ _ hs
  have un := hr.in1.in1.un
  refine PySem.W.kso_call (by omega) I.kIn J M.at_ M.fn (wpAny_call (codeAny_mono (F.run X.A.in1.in1 X.stack s H ⟨[.ref a], []⟩ [.ref a] [.ref a] _ E hr.in1.in1 I.env0.in1.in1 (by
    have z := hb s [.ref a] I.kIn (by simpa using hl)
    simpa using z) (.cons rfl .nil) hs) fun r s' hq => ?_))
  cases r with
  | error e => exact False.elim (hx pins σ H s e s' (I.wish _) hq)
  | ok fl =>
    cases fl with
    | ret u =>
      obtain ⟨v, H2, I2, rv, t, rfl, q⟩ := I.after hq
      obtain ⟨tk, rfl⟩ := rv
      exact ⟨.str t, H2, I2, ⟨tk, rfl⟩, q⟩
    | next => exact False.elim hq
    | brk => exact False.elim hq
    | cont => exact False.elim hq
/-- x == y, x such an instance -/
def rEqO (K : PySem.W.Frag) (C : Addr) (sp : Sp) (E : XK) : R2 := fun x y H Q => ∃ a dx fs t, x = .ref a ∧ H a = some (.ins C dx fs) ∧ TyOf K H y t ∧ PySem.W.notFirst K C t = true ∧ sp [x, y] H Q E
theorem op_eqO (M : OwnM X.K C "__eq__" f) (F : FnOk X.prog X.w X.K X.mg X.base CX k f fd ps sp) (hr : Room k X.A) (hb : Binds X.K fd ps []) (hx : Passes CX X E) : OpR X (compareOp .Eq) (rEqO X.K C sp E) := by
  intro pins s σ H x y v u Q I rx ry h
  obtain ⟨a, dx, fs, t, rfl, ha, ty, hn, hs⟩ := h
  obtain rfl : v = Value.ref a := rx
  obtain ⟨mA, O, _⟩ := ins_get I.hok ha
  obtain ⟨od, J, _⟩ := O.look
  obtain ⟨m, hF⟩ := I.fr
  refine PySem.W.cmp_ofEq (PySem.W.cmp_K (op := .Eq) hr.units0 hF I.ok.mod.kin J (ty_look I ry ty) hn M.at_ M.fn ?_)
  exact thn (run_fn (us := [.ref a, u]) (vs := [.ref a, y]) (dvs := []) F hr hb .nil hx I (.cons rfl (.cons ry .nil)) (by rw [List.append_nil]; exact hs)) fun _ _ z => ep_back z
end

/-! ### C.m(e, ..), a static method -/
structure SMet (K : PySem.W.Frag) (C : Addr) (m : Str) (g : Addr) : Prop where
  p : ∃ p, PySem.W.findCls K (.ref C) (.type "type") m = some (.get (.builtin "staticmethod.__get__") (.ref p) .none (.ref C)) ∧ ∃ rest, PySem.W.recIn K p "staticmethod" = some (.ref g :: rest)
  kp : PySem.W.keepIn K (.ref g) = true
def tSMeth (C : Addr) (sp : Sp) (E : XK) (ta : TE) (t : TA) : TE := fun σ H Q => ta σ H fun x H1 => x = .ref C ∧ t σ H1 fun vs H2 => sp vs H2 Q E
theorem pe_smeth {X : Cx} {CX : CXT} {k : Nat} {C g : Addr} {fd : FuncData} {ps : List Str} {sp : Sp} {E : XK} {o e : Expr} {es : List Expr} {m : Str} {pos apos : Pos} {ta : TE} {t : TA} {pl : Sem Bool}
    (he : PE X o ta) (r : ClX.CRead X.K C (.type "type")) (c : SMet X.K C m g) (F : FnOk X.prog X.w X.K X.mg X.base CX k g fd ps sp) (hr : Room k X.A) (hb : Binds X.K fd ps []) (hx : Passes CX X E) (ha : PA X (e :: es) t)
    (hst : starEach (e :: es) X.env = (false, eval e X.env) :: starEach es X.env := by rfl) (hpl : (backTo pos (starEach es X.env)).any (·.1) = false := by rfl)
    (ht : eval (.Call (.Attribute o m apos) (e :: es) [] pos) X.env = (eval o X.env >>= fun ov => standAt apos.atName >>= fun _ => holding [ov] (getMethod ov m pl) >>= fun fg =>
      callWith pos fg.1 fg.2 (backTo pos (starEach (e :: es) X.env)) (backToKw pos (keywordEach [] X.env))) := by rfl) :
    PE X (.Call (.Attribute o m apos) (e :: es) [] pos) (tSMeth C sp E ta t) := by
  refine ⟨fun pins s σ H Q I h => ?_⟩
  refine PySem.W.methodCall_KW (pl := pl) (thn (he.run pins s σ H _ I h) fun u s1 ⟨x, H1, I1, rx, ex, q⟩ => ?_) ht
  subst ex
  obtain rfl : u = Value.ref C := rx
  obtain ⟨p, c1, rest, c2⟩ := c.p
  refine PySem.W.method_cls I1.kIn r.ga (PySem.W.cls_bind I1.kIn r.rd c1 (wpAny_call (PySem.W.sm_get (s := { s1 with toks := s1.toks + 1 }) I1.kIn c2 (PySem.W.handed_on rfl ?_))))
  have I2 := I1.tok (s1.toks + 1)
  refine PySem.W.callWith_K (first := []) (h₀ := X.base) I.ok.mod.kin c.kp (thn (ha.run pos pins _ σ H1 _ I2 q) fun us s3 ⟨vs, H3, I3, rv, q3⟩ => ⟨I3.kIn, ?_⟩) hst hpl
  exact run_fn F hr hb .nil hx I3 rv (by rw [List.append_nil]; exact q3)
end K1

/-! x(lambda: body, 'text'): a def that is handed a lambda and a text. -/
namespace K1
open PySem PySem.Spec PyProof.Rows L2 LamX

/-- x(), in the def that got the lambda; what is raised is wished for at that def's slots -/
theorem pe_act2 {X : Cx} {pins0 : List (Addr × Obj)} {σ0 : L2.St} {H0 : Hp} {s0 : Shared} {CXg : CXT} {Eg : XK} {Ng : List Str} {qg a : Str} {sg scope : Scope} {g f c2 : Addr} {cdg pm ctv : Value} {params : Arguments} {body : Expr} {k i : Nat} {pn : List (Addr × Obj)} {xe : Value → Shared → Prop} {W : WX}
    {tb : XK → TE} {p1 p2 : Pos} (I0 : Inv X pins0 σ0 H0 s0) (L : LamS X.env.scope scope) (hf : s0.heap.get? f = some (PySem.W.kla_obj "<lambda>" (X.env.qual ++ "<lambda>") params body scope (cloFrom X.env.cells scope.names []) pm c2 ctv)) (nf : H0 f = none) (ns : f ∉ frs X.stack)
    (nb : bindArgs (PySem.W.kla_fn "<lambda>" (X.env.qual ++ "<lambda>") params body scope (cloFrom X.env.cells scope.names []) pm (.ref c2) ctv) ⟨[], []⟩ = pure []) (tk : Takes ((cxOf CXg X.prog X.w X.K X.mg X.base Ng qg sg g cdg X.A X.stack s0 H0 Eg).tr pn xe) W)
    (hr : Room (k + 1) (X.A.deeper (envOfC qg sg s0.heap.objs.size g cdg))) (hb : ∀ (A : Around) (outer : List Env) (s : Shared) (H : Hp) (E : XK), Room k (A.deeper (lamEnv X scope s.heap.objs.size f c2)) → PE (lamCx X A outer s H E scope f c2) body (tb E))
    (hN : Ng[i]? = some a) (hv : Vis sg a) (hd : (a == ("__debug__" : Str)) = false) (hcd : (a == ("__classdict__" : Str)) = false) :
    PE ((cxOf CXg X.prog X.w X.K X.mg X.base Ng qg sg g cdg X.A X.stack s0 H0 Eg).tr pn xe) (.Call (.Name a p1) [] [] p2) (fun σ H Q => σ[i]? = some (some (.ref f)) ∧ H c2 = some (CodeO c2 (X.env.qual ++ "<lambda>")) ∧ tb (WE W σ) σ0 H Q) := by
  refine ⟨fun pZ sZ σZ HZ Q IZ ⟨z1, z2, z3⟩ => ?_⟩
  refine wpAny_Call_Name_kw (thn ((pe_var (pos := p1) (i := i) hN hv hd hcd).run pZ sZ σZ HZ (fun v H1 => v = .ref f ∧ H1 = HZ) IZ ⟨.ref f, z1, rfl, rfl⟩) fun u s1 ⟨v, H1, I1, r1, e1, e2⟩ => ?_)
  subst e1 e2
  obtain rfl : u = Value.ref f := r1
  have at1 : s1.heap.get? f = some (PySem.W.kla_obj "<lambda>" (X.env.qual ++ "<lambda>") params body scope (cloFrom X.env.cells scope.names []) pm c2 ctv) := I1.base.keep f _ hf nf ns fun z => nomatch (show f ∈ ([] : List Addr) from z)
  refine PySem.W.callWith_F0 ⟨_, _, _, _, at1⟩ ?_
  have U : Un (frs X.stack) [] H0 H1 s0.heap s1.heap := I1.base
  obtain ⟨⟨oc, cvs, ct, g1, g2, g3⟩, _, _⟩ := I1.hok c2 _ z2
  have run : codeAny (model X.prog X.w) (X.A.deeper (envOfC qg sg s0.heap.objs.size g cdg)) (.call (.ref f) ⟨[], []⟩) (CR (L2.CX X.prog X.w) (envOfC qg sg s0.heap.objs.size g cdg :: X.stack) X.prog X.w H1 s1 Q (WE W σZ)) s1 := by
    refine PySem.W.kla_callFunE hr.depth at1 rfl L.co L.gen rfl ⟨c2, oc, cvs, ct, rfl, g1, g2, g3⟩ (by
      rw [nb]
      refine wpAny_pure (wpAny_newFunctionEnv (fun y hy => (L.own y hy).2) (fun y hy => absurd hy (by simp)) (fun hp hns hsb => ⟨I1.nolimit.fresh _ hsb, ?_⟩) L.kind)
      have kept : ∀ b o, s1.heap.get? b = some o → hp.get? b = some o := fun b o q => hsb.extBut b o (Nat.ne_of_lt (Heap.lt_size q)) (Heap.get?_push_of_some _ q)
      have J : Inv (lamCx X (X.A.deeper (envOfC qg sg s0.heap.objs.size g cdg)) (envOfC qg sg s0.heap.objs.size g cdg :: X.stack) s1 H1 (WE W σZ) scope f c2) [] σ0 H1 { s1 with heap := hp, toks := s1.toks + ([] : List (Str × Value)).length } := lam_start2 I0 L I1.env0 hr.hd U hns kept
      show codeAny _ _ (.expr body (lamEnv X scope s1.heap.objs.size f c2)) _ _
      refine PySem.W.kla_codeExpr (wpAny_mono ((hb _ _ s1 H1 _ (hr.deeper _)).run [] _ _ H1 Q J z3) (fun v s2 ⟨w1, H2, J2, rv, q2⟩ => ⟨w1, H2, J2.os, J2.bare, J2.base, J2.hok, rv, q2⟩) fun _ _ q => q))
  refine wpAny_call (codeAny_mono run fun r s2 hq => ?_)
  rcases r with e | fl
  · exact passAt tk σZ pZ H1 s1 e s2 I1 hq
  · cases fl <;> first | exact I1.after hq | exact False.elim hq
/-- the def that calls what it got, beside a text y -/
def Gives2 (X : Cx) (Ng : List Str) (x : Str) (sg : Scope) (g : Addr) (cdg : Value) (bg : List Stmt) (a : Str) (q : Str) (y : Str) (TT : (XK → Hp → VK → Prop) → Hp → VK → Prop) : Prop :=
  ∀ (f c' : Addr) (s : Shared) (H : Hp) (Q : VK) (tl : XK → Hp → VK → Prop),
    (∀ (W : WX) (pn : List (Addr × Obj)) (xe : Value → Shared → Prop) (p1 p2 : Pos), Takes ((cxOf C8.CX0 X.prog X.w X.K X.mg X.base Ng x sg g cdg X.A X.stack s H C8.E0).tr pn xe) W →
      PE ((cxOf C8.CX0 X.prog X.w X.K X.mg X.base Ng x sg g cdg X.A X.stack s H C8.E0).tr pn xe) (.Call (.Name a p1) [] [] p2) (fun σZ HZ Q => σZ[0]? = some (some (.ref f)) ∧ HZ c' = some (CodeO c' q) ∧ tl (WE W σZ) HZ Q)) →
    H c' = some (CodeO c' q) → TT tl H Q →
    ∃ t, PSs (cxOf C8.CX0 X.prog X.w X.K X.mg X.base Ng x sg g cdg X.A X.stack s H C8.E0).nox bg t ∧ t { nx := fun _ H' => Q .non H', rt := Q } (L2.start Ng [.ref f, .str y]) H
section
variable {X : Cx}
theorem pe_lam2 {T : List (Addr × Str)} {TT : (XK → Hp → VK → Prop) → Hp → VK → Prop} {x a b y : Str} {g c P : Addr} {k j : Nat} {pg : Arguments} {bg : List Stmt} {sg : Scope} {dV kV doc pm cdv ct oc : Value} {an od : Option Addr} {osl : Array (Option Value)} {Ng : List Str}
    {params : Arguments} {body : Expr} {scope : Scope} {t : XK → TE} {p lpos cpos pos : Pos} (hg : Gl X x) (hm : X.mg x = some (.ref g)) (hk : PySem.W.keepIn X.K (.ref g) = true)
    (lk : X.K.lookup g = some ⟨oc, od, .func (PySem.W.fnOf x x pg bg sg dV kV doc pm an cdv ct), osl⟩) (hcg : PySem.W.codeIn X.K cdv x = true) (hb : L2.Binds X.K (PySem.W.fnOf x x pg bg sg dV kV doc pm an cdv ct) [a, b] []) (Sg : FnScope Ng [a, b] sg) (hNg : Ng[0]? = some a) (hva : Vis sg a)
    (hG : Gives2 X Ng x sg g cdv bg a (X.env.qual ++ "<lambda>") y TT)
    (TB : TabB X.base X.mg c P) (hcode : X.env.code = .ref c) (hmT : (P, X.env.qual ++ "<lambda>") ∈ T) (hu : ∀ p ∈ T, p.1 = P → p.2 = X.env.qual ++ "<lambda>") (hr : Room (k + 2) X.A) (L : LamS X.env.scope scope) (hdef : defaultsOf params X.env = ([], []))
    (hbind : ∀ (q : Str) (cl : List (Str × Addr)) (pm cv ctv : Value), bindArgs (PySem.W.kla_fn "<lambda>" q params body scope cl pm cv ctv) ⟨[], []⟩ = pure [])
    (hbody : ∀ (A : Around) (outer : List Env) (s : Shared) (H : Hp) (E : XK) (f c' : Addr), Room k (A.deeper (lamEnv X scope s.heap.objs.size f c')) → PE (lamCx X A outer s H E scope f c') body (t E))
    (hdb : (x == ("__debug__" : Str)) = false := by decide) (hd : (a == ("__debug__" : Str)) = false := by decide) (hcd : (a == ("__classdict__" : Str)) = false := by decide) :
    PE X (.Call (.Name x p) [.Lambda params body scope lpos, .Constant (.str y) j cpos] [] pos) (tLam T TT t) := by
  refine ⟨fun pins s σ H Q I ⟨hT, h⟩ => ?_⟩
  refine wpAny_Call_Name_kw (ld_glob I hg hm ?_ hdb)
  refine PySem.W.callWith_K (h₀ := X.base) I.ok.mod.kin hk ?_ (by rfl) (by rfl)
  show wpAny _ _ (spliced ((false, eval (.Lambda params body scope lpos) X.env) :: (backTo pos (starEach [.Constant (.str y) j cpos] X.env)))) _ _ s
  refine Calls.spliced_cons (lam_make2 I TB hcode hmT hu hT hdef (L.has I.ok) fun f c' pm' ctv H1 s' I1 eN T1 hf hfn hfr hco => ?_)
  refine Calls.spliced_cons (Calls.Constant_str (k := j) (pos := cpos) ?_)
  have I2 : Inv X pins σ H1 { s' with toks := s'.toks + 1 } := I1.tok _
  refine Calls.spliced_nil ⟨I2.kIn, ?_⟩
  have rc : codeAny (model X.prog X.w) X.A (.call (.ref g) ⟨[.ref f, .str y s'.toks], []⟩) (CR C8.CX0 X.stack X.prog X.w H1 { s' with toks := s'.toks + 1 } Q C8.E0) { s' with toks := s'.toks + 1 } := by
    refine run_ofS (N := Ng) (ps := [a, b]) (us := [.ref f, .str y s'.toks]) (vs := [.ref f, .str y]) lk hcg Sg hr I2.env0 (hb _ [.ref f, .str y s'.toks] I2.kIn rfl) (.cons rfl (.cons ⟨_, rfl⟩ .nil)) rfl fun hr2 => ?_
    obtain ⟨t', ht', hq'⟩ := hG f c' _ H1 Q (fun E H' Q' => t E σ H' Q')
      (fun W pn xe p1 p2 tk => pe_act2 (i := 0) I2 L hf hfn hfr (hbind _ _ _ _ _) tk hr2 (fun A outer s H E hr3 => hbody A outer s H E f c' hr3) hNg hva hd hcd) hco (h H1 eN T1)
    exact ⟨t', ht'.nox, hq'⟩
  refine wpAny_call (codeAny_mono rc fun r s2 hq => ?_)
  cases r with
  | error e => exact (show False from hq).elim
  | ok fl => cases fl <;> first | exact I2.after hq | exact (show False from hq).elim
end
end K1

/-! k44: the text by places. -/
namespace K18
open PySem PySem.Spec PyProof.Rows L2 LamX K1

abbrev sREq : Stmt := inClass (top 39) 9
abbrev sRRepr : Stmt := inClass (top 39) 11
abbrev sHRet : Stmt := inClass (top 48) 1
abbrev sHEq : Stmt := inClass (top 48) 3
abbrev sSEven : Stmt := inClass (top 49) 3
abbrev sSGain : Stmt := inClass (top 49) 4
abbrev sSPriced : Stmt := inClass (top 49) 5
abbrev sSIter : Stmt := inClass (top 49) 8
abbrev sSEq : Stmt := inClass (top 49) 11
abbrev sSNeg : Stmt := inClass (top 49) 12
abbrev sSAdd : Stmt := inClass (top 49) 13
/-- a def of the text, no defaults -/
abbrev DefAt (K : PySem.W.Frag) (x qual : Str) (st : Stmt) (f : Addr) (fd : FuncData) : Prop := FunD K x qual (defArgs st) (defBody st) (defScope st) [] [] f fd
/-- built-in names that the module has not stored -/
structure Glob (mg : Str → Option Value) : Prop where
  abs : mg "abs" = none
  int : mg "int" = none
  len : mg "len" = none
  bool : mg "bool" = none
  repr : mg "repr" = none
  isi : mg "isinstance" = none
  range : mg "range" = none
  all : mg "all" = none
  lst : mg "list" = none
  tup : mg "tuple" = none
  set : mg "set" = none
  sorted : mg "sorted" = none
  min : mg "min" = none
  max : mg "max" = none
  zip : mg "zip" = none
  iter : mg "iter" = none
  str : mg "str" = none
  sum : mg "sum" = none
  enum : mg "enumerate" = none
  gcd : mg "gcd" = some (.builtin "math.gcd")
/-- a def of the module that is called by its name -/
structure Has (P : Program) (w : World) (K : PySem.W.Frag) (mg : Str → Option Value) (base : Heap) (CX : CXT) (k : Nat) (x : Str) (ps : List Str) (sp : Sp) : Prop where
  h : ∃ f fd, mg x = some (.ref f) ∧ PySem.W.keepIn K (.ref f) = true ∧ Binds K fd ps [] ∧ FnOk P w K mg base CX k f fd ps sp
theorem okN {P : Program} {w : World} {K : PySem.W.Frag} {mg : Str → Option Value} {base : Heap} {x qual : Str} {st : Stmt} {f : Addr} {fd : FuncData} {N ps : List Str} {k : Nat} {sp : Sp}
    (F : DefAt K x qual st f fd) (S : FnScope N ps (defScope st)) (len : ∀ vs H Q E, sp vs H Q E → vs.length = ps.length)
    (hb : ∀ (cdv : Value) (A : Around) (outer : List Env) (s : Shared) (H : Hp) (vs : List V) (Q : VK) (E : XK), Room k (A.deeper (envOfC qual (defScope st) s.heap.objs.size f cdv)) → sp vs H Q E →
      ∃ t, PSs (cxOf CX0 P w K mg base N qual (defScope st) f cdv A outer s H E).nox (defBody st) t ∧ t { nx := fun _ H' => Q .non H', rt := Q } (start N vs) H) : FnOk P w K mg base CX0 (k + 1) f fd ps sp :=
  F.ok S len fun cdv A outer s H vs Q E hr h => let ⟨t, h1, h2⟩ := hb cdv A outer s H vs Q E hr h; ⟨t, h1.nox, h2⟩
/-- a def that may raise -/
theorem okX {P : Program} {w : World} {K : PySem.W.Frag} {mg : Str → Option Value} {base : Heap} {x qual : Str} {st : Stmt} {f : Addr} {fd : FuncData} {N ps : List Str} {k : Nat} {sp : Sp}
    (F : DefAt K x qual st f fd) (S : FnScope N ps (defScope st)) (len : ∀ vs H Q E, sp vs H Q E → vs.length = ps.length)
    (hb : ∀ (cdv : Value) (A : Around) (outer : List Env) (s : Shared) (H : Hp) (vs : List V) (Q : VK) (E : XK), Room k (A.deeper (envOfC qual (defScope st) s.heap.objs.size f cdv)) → sp vs H Q E →
      ∃ t, PSs (cxOf (L2.CX P w) P w K mg base N qual (defScope st) f cdv A outer s H E) (defBody st) t ∧ t { nx := fun _ H' => Q .non H', rt := Q } (start N vs) H) : FnOk P w K mg base (L2.CX P w) (k + 1) f fd ps sp := by
  obtain ⟨oc, od, dV, kV, doc, pm, an, cdv, ct, osl, rfl, lk, hcd, _, _⟩ := F.ex
  exact fn_of lk hcd S len fun A outer s H vs Q E hr h => hb cdv A outer s H vs Q E hr h
theorem yes_of {σ : L2.St} {H : Hp} {F G : Hp → Prop} (h : F H) : tYes σ H (fun b H' => if b = true then F H' else G H') := h
theorem upd_new {H : Hp} {a : Addr} {o : HO} (h : H a = none) : Same H (upd H a o) := fun b u e => by rw [upd_ne (ne_of_none e h)]; exact e
end K18

/-! k18: lambdas with parameters, kept as values; x(lambda: ..). -/
namespace K18
open PySem PySem.Spec PyProof.Rows L2 LamX K1 NdefX

/-- a made lambda's words, cells, code -/
structure LF where
  q : Str
  ps : Arguments
  e : Expr
  sc : Scope
  cl : List (Str × Addr)
  c : Addr
abbrev LF.ob (F : LF) (pm ct : Value) : Obj := PySem.W.kla_obj "<lambda>" F.q F.ps F.e F.sc F.cl pm F.c ct
abbrev LF.nf (F : LF) : NF := ⟨"<lambda>", F.q, F.ps, [], F.sc, F.cl, F.c⟩
/-- at f stands that lambda -/
def LamO (f : Addr) (F : LF) : HO := .ext fun h => ∃ pm ct : Value, h.get? f = some (F.ob pm ct)
theorem lamO_at {P : Program} {w : World} {H : Hp} {h : Heap} {f : Addr} {F : LF} (ok : HOk P w H h) (e : H f = some (LamO f F)) : ∃ pm ct : Value, h.get? f = some (F.ob pm ct) := (ok f _ e).1
section
variable {X : Cx} {pins : List (Addr × Obj)} {σ : L2.St} {H : Hp} {s : Shared}
theorem lam_lay {F : LF} {pm ct : Value} {tk : Nat} (I : Inv X pins σ H s) : Inv X pins σ (upd H s.heap.objs.size (LamO s.heap.objs.size F)) { s with heap := s.heap.push (F.ob pm ct), toks := tk } := by
  have here : (s.heap.push (F.ob pm ct)).get? s.heap.objs.size = some (F.ob pm ct) := Heap.get?_push_size _ rfl
  exact I.laid (fun _ _ z => Heap.get?_push_of_some _ z) (Nat.le_refl _) ⟨⟨pm, ct, here⟩, ⟨_, here⟩, fun _ _ ⟨p, t, z⟩ st => ⟨p, t, st _ z⟩⟩
/-- a lambda made and kept -/
theorem lam_makeT {T : List (Addr × Str)} {c P : Addr} {params : Arguments} {body : Expr} {sc : Scope} {pos : Pos} {E Q : Value → Shared → Prop} (I : Inv X pins σ H s) (B : TabB X.base X.mg c P) (ec : X.env.code = .ref c)
    (inT : (P, X.env.qual ++ "<lambda>") ∈ T) (one : ∀ p ∈ T, p.1 = P → p.2 = X.env.qual ++ "<lambda>") (tabs : Tabs T H) (nod : defaultsOf params X.env = ([], [])) (fr : ∀ y ∈ sc.names, y.2 = .free → ∃ c, X.env.cells.lookup y.1 = some c)
    (k : ∀ (f c' : Addr) (H1 : Hp) (s' : Shared), Inv X pins σ H1 s' → ExtN H H1 → Tabs T H1 → H f = none → H1 f = some (LamO f ⟨X.env.qual ++ "<lambda>", params, body, sc, cloFrom X.env.cells sc.names [], c'⟩) → H1 c' = some (CodeO c' (X.env.qual ++ "<lambda>")) → Q (.ref f) s') :
    wpAny (model X.prog X.w) X.A (eval (.Lambda params body sc pos) X.env) Q E s := by
  obtain ⟨tb, tP, tO, tA⟩ := (show TabS H P (X.env.qual ++ "<lambda>") from tabs _ inT)
  refine PySem.W.kla_eval nod ?_
  have hp : s.heap.get? P = some { cls := .none, data := .fields tb } := I.hok P _ tP
  have bb : s.heap.BuiltinsAt X.mg P := B.bm.keeps I.bk
  cases am : codeAmong pos tb.toList with
  | some cv =>
    obtain ⟨c', rfl, co⟩ := tA pos cv am
    refine PySem.W.kla_makeFunctionHit (mg := X.mg) (c := c) (P := P) (ps := tb) (closure_ok fr) I.ok.glob (I.mod.glob.keeps I.bk) ec (B.code.keeps I.bk) hp tO am bb fun ct h1 tk kp _ => ?_
    have J : Inv X pins σ H { s with heap := h1, toks := tk } := I.kept kp
    have nf := J.hok.fresh (Nat.le_refl _)
    have J2 := lam_lay (F := ⟨X.env.qual ++ "<lambda>", params, body, sc, cloFrom X.env.cells sc.names [], c'⟩) (pm := (X.mg "__name__").getD .none) (ct := ct) (tk := tk) J
    exact k _ c' _ _ J2 (fun b o e _ => (upd_ne (ne_of_none e nf)).trans e) (tabs.ext fun b o e => (upd_ne (ne_of_none e nf)).trans e) nf upd_same ((upd_ne (ne_of_none co nf)).trans co)
  | none =>
    refine PySem.W.kla_makeFunction (mg := X.mg) (c := c) (P := P) (ps := tb) (closure_ok fr) I.ok.glob (I.mod.glob.keeps I.bk) ec (B.code.keeps I.bk) hp tO am B.gP bb fun c' ct h1 tk kp g1 g2 rec_ htb => ?_
    obtain ⟨c2, oc, vs, t, e2, o1, o2, o3⟩ := rec_
    cases e2
    have nC : H c' = none := I.hok.fresh g1
    have J := inv_table (t' := tk) (more := #[rawInt pos.line, rawInt pos.col, .ref c']) (h' := h1) I tP (fun b o nb e => kp b o nb e) htb g1 ⟨oc, vs, t, o1, o2, o3⟩
    have ext : ExtN H (upd (upd H P (.tbl (tb ++ #[rawInt pos.line, rawInt pos.col, .ref c']))) c' (CodeO c' (X.env.qual ++ "<lambda>"))) := fun b o e n => by
      rw [upd_ne (ne_of_none e nC), upd_ne (fun z => n tb (Option.some.inj (e.symm.trans (by rw [z]; exact tP))))]
      exact e
    have lst : (tb ++ #[rawInt pos.line, rawInt pos.col, .ref c']).toList = tb.toList ++ [rawInt pos.line, rawInt pos.col, .ref c'] := by simp
    have T1 : Tabs T (upd (upd H P (.tbl (tb ++ #[rawInt pos.line, rawInt pos.col, .ref c']))) c' (CodeO c' (X.env.qual ++ "<lambda>"))) := fun p hp => by
      by_cases hb : p.1 = P
      · rw [one p hp hb, hb]
        refine ⟨_, (upd_ne (ne_of_none tP nC)).trans upd_same, by rw [lst]; exact PySem.TriplesOk_snoc _ _ _ _ tO, fun pz cv hc => ?_⟩
        rw [lst] at hc
        exact (among_app _ tO hc).elim (fun z => let ⟨c0, e1, e2⟩ := tA pz cv z; ⟨c0, e1, ext _ _ e2 codeO_ne⟩) fun z => ⟨c', z, upd_same⟩
      · obtain ⟨qs, a1, a2, a3⟩ := tabs p hp
        exact ⟨qs, by rw [upd_ne (ne_of_none a1 nC), upd_ne hb]; exact a1, a2, fun pz cv hc => let ⟨c0, e1, e2⟩ := a3 pz cv hc; ⟨c0, e1, ext _ _ e2 codeO_ne⟩⟩
    have nf := J.hok.fresh (Nat.le_refl _)
    have J2 := lam_lay (F := ⟨X.env.qual ++ "<lambda>", params, body, sc, cloFrom X.env.cells sc.names [], c'⟩) (pm := (X.mg "__name__").getD .none) (ct := ct) (tk := tk) J
    exact k _ c' _ _ J2 (fun b o e n => (upd_ne (ne_of_none (ext b o e n) nf)).trans (ext b o e n)) (T1.ext fun b o e => (upd_ne (ne_of_none e nf)).trans e) (I.hok.fresh (Nat.le_trans g1 (Nat.le_of_lt g2))) upd_same ((upd_ne (Nat.ne_of_lt g2)).trans upd_same)
end
def tLamV (T : List (Addr × Str)) (mk : Addr → LF) : TE := fun σ H Q => Tabs T H ∧ ∀ (f c' : Addr) (H1 : Hp), ExtN H H1 → Tabs T H1 → H f = none → H1 f = some (LamO f (mk c')) → H1 c' = some (CodeO c' (mk c').q) → Q (.ref f) H1
/-- the free names of a lambda are cells of the def -/
def lamFB (sc nsc : Scope) : Bool := nsc.names.all fun y => !decide (y.2 = .free) || decide (sc.names.lookup y.1 = some .cell) || decide (sc.names.lookup y.1 = some .free)
theorem lamF_ok {sc nsc : Scope} (h : lamFB sc nsc = true) : ∀ y ∈ nsc.names, y.2 = .free → sc.names.lookup y.1 = some .cell ∨ sc.names.lookup y.1 = some .free := fun y hy e => by
  have z := List.all_eq_true.mp h y hy
  simp only [Bool.or_eq_true, Bool.not_eq_true', decide_eq_true_eq, decide_eq_false_iff_not] at z
  exact z.elim (fun z => z.elim (fun z => absurd e z) .inl) .inr
theorem pe_lamV {X : Cx} {T : List (Addr × Str)} {c P : Addr} {params : Arguments} {body : Expr} {sc : Scope} {pos : Pos} (B : TabB X.base X.mg c P) (ec : X.env.code = .ref c)
    (inT : (P, X.env.qual ++ "<lambda>") ∈ T) (one : ∀ p ∈ T, p.1 = P → p.2 = X.env.qual ++ "<lambda>") (fr : lamFB X.env.scope sc = true) (nod : defaultsOf params X.env = ([], []) := by rfl) :
    PE X (.Lambda params body sc pos) (tLamV T fun c' => ⟨X.env.qual ++ "<lambda>", params, body, sc, cloFrom X.env.cells sc.names [], c'⟩) :=
  ⟨fun pins s σ H Q I ⟨t, k⟩ => lam_makeT I B ec inT one t nod (fun y hy e => (lamF_ok fr y hy e).elim (fun z => I.ok.has _ (.inl z)) fun z => I.ok.has _ (.inr z)) fun f c' H1 s' J x t1 n a b => ⟨.ref f, H1, J, rfl, k f c' H1 x t1 n a b⟩⟩

/-! ### calls of such -/
theorem cells_un {cl : List (Str × Addr)} {fr : List Str} {ws : List (Option V)} {h h' : Heap} {H H' : Hp} {fs : List Addr} (C : CellsAt cl fr ws h H) (U : Un fs [] H H' h h') : CellsAt cl fr ws h' H' := by
  have kp : ∀ y c, cl.lookup y = some c → ∀ v, h.IsCell c v → h'.IsCell c v := fun y c e v ⟨o, ho, hd⟩ => by
    obtain ⟨sl, z⟩ := U.any ho (C.all y c e).1 (by simp)
    exact ⟨_, z, hd⟩
  refine ⟨C.len, fun y c e => ?_, C.inj, fun i y e => ?_⟩
  · obtain ⟨n, v, z⟩ := C.all y c e
    obtain ⟨o, ho, _⟩ := id z
    exact ⟨U.free c o ho n (by simp), v, kp y c e v z⟩
  · obtain ⟨c, hc, hv⟩ := C.has i y e
    exact ⟨c, hc, fun v ev => let ⟨u, r, z⟩ := hv v ev; ⟨u, r, kp y c hc _ z⟩⟩
structure LOk (P : Program) (w : World) (K : PySem.W.Frag) (mg : Str → Option Value) (base : Heap) (CX : CXT) (k : Nat) (F : LF) (ps fr : List Str) (sp : List (Option V) → Sp) : Prop where
  run : ∀ (f : Addr) (A : Around) (outer : List Env) (s : Shared) (H : Hp) (us : List Value) (vs : List V) (ws : List (Option V)) (Q : VK) (E : XK), Room k A → Env0 P w K mg base A outer s H → H f = some (LamO f F) → H F.c = some (CodeO F.c F.q) →
    CellsAt F.cl fr ws s.heap H → Vals vs us → sp ws vs H Q E → codeAny (model P w) A (.call (.ref f) ⟨us, []⟩) (CR CX outer P w H s Q E) s
section
variable {CX : CXT} {P : Program} {w : World} {K : PySem.W.Frag} {mg : Str → Option Value} {base : Heap} {N ps fr : List Str} {F : LF} {k : Nat} {sp : List (Option V) → Sp}
theorem lok_of (S : NScope N ps fr F.sc) (hb : ∀ (pm ct : Value) (us : List Value), us.length = ps.length → bindArgs (PySem.W.kla_fn "<lambda>" F.q F.ps F.e F.sc F.cl pm (.ref F.c) ct) ⟨us, []⟩ = pure (ps.zip us)) (len : ∀ ws vs H Q E, sp ws vs H Q E → vs.length = ps.length)
    (body : ∀ (f : Addr) (A : Around) (outer : List Env) (s : Shared) (H : Hp) (vs : List V) (ws : List (Option V)) (Q : VK) (E : XK), Room k (A.deeper (envF F.nf f s.heap.objs.size)) → ws.length = fr.length → sp ws vs H Q E →
      ∃ t, PE (ncx CX P w K mg base N F.nf f A outer s H E) F.e t ∧ t (startF N vs ws) H Q) : LOk P w K mg base CX (k + 1) F ps fr sp := by
  refine ⟨fun f A outer s H us vs ws Q E hr e0 hf hc C r hsp => ?_⟩
  have hl := len _ _ _ _ _ hsp
  have lim : s.heap.NoLimit := e0.mod.nolimit.keeps fun b o e => (e0.bs b o e).1
  obtain ⟨pm, ct, ho⟩ := lamO_at e0.hok hf
  obtain ⟨oc, cv, t, g1, g2, g3⟩ := (e0.hok F.c _ hc).1
  refine PySem.W.kla_callFunE hr.depth ho rfl S.co S.gen rfl ⟨F.c, oc, cv, t, rfl, g1, g2, g3⟩ ?_
  rw [hb pm ct us (by rw [← r.length]; exact hl)]
  refine wpAny_pure (wpAny_newFunctionEnv S.nocell (fun ⟨n, _⟩ hy => S.par n (List.of_mem_zip hy).1) (fun h₁ hns hsb => ⟨lim.fresh _ hsb, ?_⟩) S.kind)
  have kp : ∀ b o, s.heap.get? b = some o → h₁.get? b = some o := fun b o q => hsb.extBut b o (Nat.ne_of_lt (Heap.lt_size q)) (Heap.get?_push_of_some _ q)
  obtain ⟨t, ht, hq⟩ := body f A outer s H vs ws Q E (hr.deeper _) C.len hsp
  have J : Inv (ncx CX P w K mg base N F.nf f A outer s H E) [] (startF N vs ws) H { s with heap := h₁, toks := s.toks + (ps.zip us).length } := inv_startN S hr.hd e0 hl r C hns kp
  show codeAny _ _ (.expr F.e (envF F.nf f s.heap.objs.size)) _ _
  exact PySem.W.kla_codeExpr (wpAny_mono (ht.run [] _ _ H Q J hq) (fun v s2 ⟨w1, H2, J2, rv, q2⟩ => ⟨w1, H2, J2.os, J2.bare, J2.base, J2.hok, rv, q2⟩) fun _ _ q => q)
end
/-- x(e, ..), x a name that holds one of the lambdas of OK; what their cells held at the frame's entry is known -/
def tCallV (i : Nat) (OK : LF → Prop) (sp : LF → List (Option V) → Sp) (ws : List (Option V)) (E : XK) (t : TA) : TE := fun σ H Q => ∃ (f : Addr) (F : LF), σ[i]? = some (some (.ref f)) ∧ OK F ∧ H f = some (LamO f F) ∧
  t σ H fun vs H1 => H1 f = some (LamO f F) ∧ H1 F.c = some (CodeO F.c F.q) ∧ sp F ws vs H1 Q E
theorem pe_callV {X : Cx} {CX : CXT} {OK : LF → Prop} {cl : List (Str × Addr)} {ps fr : List Str} {ws : List (Option V)} {i j k : Nat} {x : Str} {sp : LF → List (Option V) → Sp} {E : XK} {t : TA} {e : Expr} {es : List Expr} {p pos : Pos} (hex : X.ex = [])
    (C : ∀ F, OK F → CellsAt F.cl fr ws X.s_0.heap X.H_0) (L : ∀ F, OK F → LOk X.prog X.w X.K X.mg X.base CX k F ps fr (sp F)) (hr : Room j X.A) (hk : k ≤ j) (hx : Passes CX X E) (hN : X.N[i]? = some x) (hv : Vis X.env.scope x) (ha : PA X (e :: es) t)
    (hd : (x == ("__debug__" : Str)) = false := by decide) (hcd : (x == ("__classdict__" : Str)) = false := by decide)
    (he : starEach (e :: es) X.env = (false, eval e X.env) :: starEach es X.env := by rfl) (hpl : (backTo pos (starEach es X.env)).any (·.1) = false := by rfl) :
    PE X (.Call (.Name x p) (e :: es) [] pos) (tCallV i OK sp ws E t) := by
  refine ⟨fun pins s σ H Q I ⟨f, F, hs, ok, hf, ht⟩ => ?_⟩
  refine wpAny_Call_Name_kw (thn ((pe_var (pos := p) hN hv hd hcd).run pins s σ H (fun v H1 => v = .ref f ∧ H1 = H) I ⟨.ref f, hs, rfl, rfl⟩) fun u s1 ⟨v, H1, I1, r1, ev, eH⟩ => ?_)
  subst ev eH
  obtain rfl : u = Value.ref f := r1
  have fa : ∀ {H' : Hp} {s' : Shared}, HOk X.prog X.w H' s'.heap → H' f = some (LamO f F) → PySem.W.FnAt f s'.heap := fun ok e => let ⟨_, _, z⟩ := lamO_at ok e; ⟨_, _, _, _, z⟩
  refine PySem.W.callWith_F (first := []) (fa I1.hok hf) (thn (ha.run pos pins s1 σ H1 _ I1 ht) fun us s2 ⟨vs, H2, I2, r, h1, h2, q⟩ => ⟨fa I2.hok h1, ?_⟩) he hpl
  have U : Un X.fs [] X.H_0 H2 X.s_0.heap s2.heap := by
    have z := I2.base
    rw [hex] at z
    exact z
  refine wpAny_call (codeAny_mono ((L F ok).run f X.A X.stack s2 H2 us vs ws Q E (hr.mono hk) I2.env0 h1 h2 (cells_un (C F ok) U) r q) fun r s' hq => ?_)
  cases r with
  | error e => exact hx pins σ H2 s2 e s' I2 hq
  | ok fl => cases fl <;> first | exact I2.after hq | exact False.elim hq
end K18

/-! k18: f(lambda: body), f a def of one parameter that calls what it gets; the body may call what the def holds. -/
namespace K18
open PySem PySem.Spec PyProof.Rows L2 LamX K1 NdefX

/-- at the lambda's entry: what the cells of the def X held at the slots σ they hold in h -/
def CellF (X : Cx) (σ : L2.St) (h : Heap) (H : Hp) : Prop := ∀ (cl : List (Str × Addr)) (fr : List Str) (js : List Nat), (X.Ok → Caps X cl fr js) → CellsAt cl fr (js.map (slotAt σ)) h H
theorem pe_act1 {X : Cx} {pins0 : List (Addr × Obj)} {σ0 : L2.St} {H0 : Hp} {s0 : Shared} {CXg : CXT} {Eg : XK} {Ng : List Str} {qg a : Str} {sg scope : Scope} {g f c2 : Addr} {cdg pm ctv : Value} {params : Arguments} {body : Expr} {k i : Nat} {pn : List (Addr × Obj)} {xe : Value → Shared → Prop} {W : WX}
    {tb : XK → TE} {p1 p2 : Pos} (I0 : Inv X pins0 σ0 H0 s0) (L : LamS X.env.scope scope) (hf : s0.heap.get? f = some (PySem.W.kla_obj "<lambda>" (X.env.qual ++ "<lambda>") params body scope (cloFrom X.env.cells scope.names []) pm c2 ctv)) (nf : H0 f = none) (ns : f ∉ frs X.stack)
    (nb : bindArgs (PySem.W.kla_fn "<lambda>" (X.env.qual ++ "<lambda>") params body scope (cloFrom X.env.cells scope.names []) pm (.ref c2) ctv) ⟨[], []⟩ = pure []) (tk : Takes ((cxOf CXg X.prog X.w X.K X.mg X.base Ng qg sg g cdg X.A X.stack s0 H0 Eg).tr pn xe) W)
    (hr : Room (k + 1) (X.A.deeper (envOfC qg sg s0.heap.objs.size g cdg))) (hb : ∀ (A : Around) (outer : List Env) (s : Shared) (H : Hp) (E : XK), Room k (A.deeper (lamEnv X scope s.heap.objs.size f c2)) → CellF X σ0 s.heap H → PE (lamCx X A outer s H E scope f c2) body (tb E))
    (hN : Ng[i]? = some a) (hv : Vis sg a) (hd : (a == ("__debug__" : Str)) = false) (hcd : (a == ("__classdict__" : Str)) = false) :
    PE ((cxOf CXg X.prog X.w X.K X.mg X.base Ng qg sg g cdg X.A X.stack s0 H0 Eg).tr pn xe) (.Call (.Name a p1) [] [] p2) (fun σ H Q => σ[i]? = some (some (.ref f)) ∧ H c2 = some (CodeO c2 (X.env.qual ++ "<lambda>")) ∧ tb (WE W σ) σ0 H Q) := by
  refine ⟨fun pZ sZ σZ HZ Q IZ ⟨z1, z2, z3⟩ => ?_⟩
  refine wpAny_Call_Name_kw (thn ((pe_var (pos := p1) (i := i) hN hv hd hcd).run pZ sZ σZ HZ (fun v H1 => v = .ref f ∧ H1 = HZ) IZ ⟨.ref f, z1, rfl, rfl⟩) fun u s1 ⟨v, H1, I1, r1, e1, e2⟩ => ?_)
  subst e1 e2
  obtain rfl : u = Value.ref f := r1
  have at1 : s1.heap.get? f = some (PySem.W.kla_obj "<lambda>" (X.env.qual ++ "<lambda>") params body scope (cloFrom X.env.cells scope.names []) pm c2 ctv) := I1.base.keep f _ hf nf ns fun z => nomatch (show f ∈ ([] : List Addr) from z)
  refine PySem.W.callWith_F0 ⟨_, _, _, _, at1⟩ ?_
  have U : Un (frs X.stack) [] H0 H1 s0.heap s1.heap := I1.base
  have cf : CellF X σ0 s1.heap H1 := fun cl fr js cp => cells_un (cells_of I0 (cp I0.ok)) U
  obtain ⟨⟨oc, cvs, ct, g1, g2, g3⟩, _, _⟩ := I1.hok c2 _ z2
  have run : codeAny (model X.prog X.w) (X.A.deeper (envOfC qg sg s0.heap.objs.size g cdg)) (.call (.ref f) ⟨[], []⟩) (CR (L2.CX X.prog X.w) (envOfC qg sg s0.heap.objs.size g cdg :: X.stack) X.prog X.w H1 s1 Q (WE W σZ)) s1 := by
    refine PySem.W.kla_callFunE hr.depth at1 rfl L.co L.gen rfl ⟨c2, oc, cvs, ct, rfl, g1, g2, g3⟩ (by
      rw [nb]
      refine wpAny_pure (wpAny_newFunctionEnv (fun y hy => (L.own y hy).2) (fun y hy => absurd hy (by simp)) (fun hp hns hsb => ⟨I1.nolimit.fresh _ hsb, ?_⟩) L.kind)
      have kept : ∀ b o, s1.heap.get? b = some o → hp.get? b = some o := fun b o q => hsb.extBut b o (Nat.ne_of_lt (Heap.lt_size q)) (Heap.get?_push_of_some _ q)
      have J : Inv (lamCx X (X.A.deeper (envOfC qg sg s0.heap.objs.size g cdg)) (envOfC qg sg s0.heap.objs.size g cdg :: X.stack) s1 H1 (WE W σZ) scope f c2) [] σ0 H1 { s1 with heap := hp, toks := s1.toks + ([] : List (Str × Value)).length } := lam_start2 I0 L I1.env0 hr.hd U hns kept
      show codeAny _ _ (.expr body (lamEnv X scope s1.heap.objs.size f c2)) _ _
      refine PySem.W.kla_codeExpr (wpAny_mono ((hb _ _ s1 H1 _ (hr.deeper _) cf).run [] _ _ H1 Q J z3) (fun v s2 ⟨w1, H2, J2, rv, q2⟩ => ⟨w1, H2, J2.os, J2.bare, J2.base, J2.hok, rv, q2⟩) fun _ _ q => q))
  refine wpAny_call (codeAny_mono run fun r s2 hq => ?_)
  rcases r with e | fl
  · exact passAt tk σZ pZ H1 s1 e s2 I1 hq
  · cases fl <;> first | exact I1.after hq | exact False.elim hq
/-- the def of one parameter that calls what it got -/
def Gives1 (X : Cx) (Ng : List Str) (x : Str) (sg : Scope) (g : Addr) (cdg : Value) (bg : List Stmt) (a : Str) (q : Str) (TT : (XK → Hp → VK → Prop) → Hp → VK → Prop) : Prop :=
  ∀ (f c' : Addr) (s : Shared) (H : Hp) (Q : VK) (tl : XK → Hp → VK → Prop),
    (∀ (W : WX) (pn : List (Addr × Obj)) (xe : Value → Shared → Prop) (p1 p2 : Pos), Takes ((cxOf C8.CX0 X.prog X.w X.K X.mg X.base Ng x sg g cdg X.A X.stack s H C8.E0).tr pn xe) W →
      PE ((cxOf C8.CX0 X.prog X.w X.K X.mg X.base Ng x sg g cdg X.A X.stack s H C8.E0).tr pn xe) (.Call (.Name a p1) [] [] p2) (fun σZ HZ Q => σZ[0]? = some (some (.ref f)) ∧ HZ c' = some (CodeO c' q) ∧ tl (WE W σZ) HZ Q)) →
    H c' = some (CodeO c' q) → TT tl H Q →
    ∃ t, PSs (cxOf C8.CX0 X.prog X.w X.K X.mg X.base Ng x sg g cdg X.A X.stack s H C8.E0).nox bg t ∧ t { nx := fun _ H' => Q .non H', rt := Q } (L2.start Ng [.ref f]) H
theorem pe_lam1 {X : Cx} {T : List (Addr × Str)} {TT : (XK → Hp → VK → Prop) → Hp → VK → Prop} {x a : Str} {g c P : Addr} {k : Nat} {pg : Arguments} {bg : List Stmt} {sg : Scope} {dV kV doc pm cdv ct oc : Value} {an od : Option Addr} {osl : Array (Option Value)} {Ng : List Str}
    {params : Arguments} {body : Expr} {scope : Scope} {t : XK → TE} {p lpos pos : Pos} (hg : Gl X x) (hm : X.mg x = some (.ref g)) (hk : PySem.W.keepIn X.K (.ref g) = true)
    (lk : X.K.lookup g = some ⟨oc, od, .func (PySem.W.fnOf x x pg bg sg dV kV doc pm an cdv ct), osl⟩) (hcg : PySem.W.codeIn X.K cdv x = true) (hb : L2.Binds X.K (PySem.W.fnOf x x pg bg sg dV kV doc pm an cdv ct) [a] []) (Sg : FnScope Ng [a] sg) (hNg : Ng[0]? = some a) (hva : Vis sg a)
    (hG : Gives1 X Ng x sg g cdv bg a (X.env.qual ++ "<lambda>") TT)
    (TB : TabB X.base X.mg c P) (hcode : X.env.code = .ref c) (hmT : (P, X.env.qual ++ "<lambda>") ∈ T) (hu : ∀ p ∈ T, p.1 = P → p.2 = X.env.qual ++ "<lambda>") (hr : Room (k + 2) X.A) (L : LamS X.env.scope scope) (hdef : defaultsOf params X.env = ([], []))
    (hbind : ∀ (q : Str) (cl : List (Str × Addr)) (pm cv ctv : Value), bindArgs (PySem.W.kla_fn "<lambda>" q params body scope cl pm cv ctv) ⟨[], []⟩ = pure [])
    (hbody : ∀ (σ0 : L2.St) (A : Around) (outer : List Env) (s : Shared) (H : Hp) (E : XK) (f c' : Addr), Room k (A.deeper (lamEnv X scope s.heap.objs.size f c')) → CellF X σ0 s.heap H → PE (lamCx X A outer s H E scope f c') body (fun σ H' Q => σ = σ0 ∧ t E σ H' Q))
    (hdb : (x == ("__debug__" : Str)) = false := by decide) (hd : (a == ("__debug__" : Str)) = false := by decide) (hcd : (a == ("__classdict__" : Str)) = false := by decide) :
    PE X (.Call (.Name x p) [.Lambda params body scope lpos] [] pos) (tLam T TT t) := by
  refine ⟨fun pins s σ H Q I ⟨hT, h⟩ => ?_⟩
  refine wpAny_Call_Name_kw (ld_glob I hg hm ?_ hdb)
  refine PySem.W.callWith_K (h₀ := X.base) I.ok.mod.kin hk ?_ (by rfl) (by rfl)
  show wpAny _ _ (spliced ((false, eval (.Lambda params body scope lpos) X.env) :: (backTo pos (starEach [] X.env)))) _ _ s
  refine Calls.spliced_cons (lam_make2 I TB hcode hmT hu hT hdef (L.has I.ok) fun f c' pm' ctv H1 s' I1 eN T1 hf hfn hfr hco => ?_)
  refine Calls.spliced_nil ⟨I1.kIn, ?_⟩
  have rc : codeAny (model X.prog X.w) X.A (.call (.ref g) ⟨[.ref f], []⟩) (CR C8.CX0 X.stack X.prog X.w H1 s' Q C8.E0) s' := by
    refine run_ofS (N := Ng) (ps := [a]) (us := [.ref f]) (vs := [.ref f]) lk hcg Sg hr I1.env0 (hb _ [.ref f] I1.kIn rfl) (.cons rfl .nil) rfl fun hr2 => ?_
    obtain ⟨t', ht', hq'⟩ := hG f c' _ H1 Q (fun E H' Q' => σ = σ ∧ t E σ H' Q')
      (fun W pn xe p1 p2 tk => pe_act1 (i := 0) I1 L hf hfn hfr (hbind _ _ _ _ _) tk hr2 (fun A outer s H E hr3 cf => hbody σ A outer s H E f c' hr3 cf) hNg hva hd hcd) hco ((h H1 eN T1) |> fun z => by
        simpa using z)
    exact ⟨t', ht'.nox, hq'⟩
  refine wpAny_call (codeAny_mono rc fun r s2 hq => ?_)
  cases r with
  | error e => exact (show False from hq).elim
  | ok fl => cases fl <;> first | exact I1.after hq | exact (show False from hq).elim
/-- a reading at the slots of the making -/
theorem pe_at {X : Cx} {e : Expr} {t t0 : TE} {σ0 : L2.St} (h : PE X e t0) (k : ∀ H Q, t σ0 H Q → t0 σ0 H Q) : PE X e (fun σ H Q => σ = σ0 ∧ t σ H Q) :=
  ⟨fun pins s σ H Q I ⟨e, q⟩ => h.run pins s σ H Q I (by subst e; exact k H Q q)⟩
end K18

/-! k18: sets made by comprehensions, one clause and two; sets of pairs. -/
namespace K18
open PySem PySem.Spec PyProof.Rows L2 LamX K1 PpSet

/-- the new set's object -/
abbrev newSetObj (w : World) : Obj := { cls := .type "set", dict := none, data := .set #[] 0 (.fresh 0 0 (!w.params.followText "set-order")) }
/-- a kind of sets: the empty one at D; add's promise -/
structure SKind (P : Program) (w : World) (K : PySem.W.Frag) where
  z : Addr → HO
  r : V → List V → Hp → VK → Prop
  fresh : ∀ (H : Hp) (h : Heap), ObjOk P w (upd H h.objs.size (z h.objs.size)) (h.push (newSetObj w)) h.objs.size (z h.objs.size)
  add : ∀ Y : Cx, Y.prog = P → Y.w = w → Y.K = K → Y.A.units + 64 < cLine → MtR Y "set.add" r
section
variable {X : Cx}
/-- {elt for tg in iter if ..} -/
def tSetC (r : V → List V → Hp → VK → Prop) (z : Addr → HO) (wi : TI) (g : TG) (tt : TT) (te : TE) (vs : List Nat) : TE := fun σ H Q => wi σ H fun J H1 => ∀ D, H1 D = none → ∃ W : Nat → Nat → Hp → Prop, (∃ m, W 0 m (upd H1 D (z D))) ∧ ∀ i m H, W i m H →
  (J.stop i H ∧ Q (.ref D) H) ∨ (J.go i H ∧ ∃ Nx : Hp → Prop, (∀ H', Nx H' → ∃ m', m' < m ∧ W (i + 1) m' H') ∧ ∀ x H', J.yld i H x H' → g x (wipe σ vs) H' fun σ2 H2 => wipe σ2 vs = wipe σ vs ∧ tt σ2 H2 fun b H3 =>
    if b = true then te σ2 H3 fun y H4 => r (.ref D) [y] H4 fun _ H5 => Nx H5 else Nx H3)
theorem setc_core (S : SKind X.prog X.w X.K) {pins : List (Addr × Obj)} {s : Shared} {σ : L2.St} {H : Hp} {Q : VK} {elt tg iter : Expr} {ifs : List Expr} {scope : Scope} {own : List (PySem.Str × Nat)} {pos pos' : Pos} {wi : TI} {g : TG} {tt : TT} {te : TE} {use : Option (Value → Sem Unit)} {Qf : Value → Shared → Prop}
    (hu : X.A.units + 64 < cLine) (hc : X.calm = true) (hN : X.N.Nodup) (I : Inv X pins σ H s) (hi : PI X tg iter wi) (ok : BlkOk X.N X.env.scope scope own)
    (hg : ∀ (s : Shared) (H : Hp) (C : Addr) (cl : List (PySem.Str × Addr)) (fp : List Addr), PG (X.blk s H scope (compEnvC scope cl C X.env) fp) tg g) (ht : ∀ (s : Shared) (H : Hp) (C : Addr) (cl : List (PySem.Str × Addr)) (fp : List Addr), PTs (X.blk s H scope (compEnvC scope cl C X.env) fp) ifs tt)
    (he : ∀ (s : Shared) (H : Hp) (C : Addr) (cl : List (PySem.Str × Addr)) (fp : List Addr), PE (X.blk s H scope (compEnvC scope cl C X.env) fp) elt te) (hs : ∀ x, foldedSetIterable iter X.env x = pure x)
    (h : tSetC S.r S.z wi g tt te (own.map (·.2)) σ H Q)
    (hRR : ∀ D C s' m H', Inv X pins σ H' s' → Q (.ref D) H' → s'.heap.Ns C m → FpOk X pins H' C → compPost (model X.prog X.w) X.A X.xe use Qf (.ref D) C (.ok .next) s') :
    wpAny (model X.prog X.w) X.A (comprehension (.SetComp elt [⟨tg, iter, ifs, 0⟩] scope pos) scope X.env pos' (newSet (.type "set")) false (eval iter X.env) use) Qf X.xe s := by
  have cellsThere : ∀ y ∈ scope.names, y.2 = .free → ∃ c, X.env.cells.lookup y.1 = some c := fun y hy e => (ok.free y hy e).elim (fun k => I.ok.has _ (.inl k)) fun k => I.ok.has _ (.inr k)
  refine wpAny_comprehension_free (use := use) rfl hs (closure_ok cellsThere) ok.kind (fun y hy e => by rw [ok.uniq y hy, e])
    (thn (hi.run pins s σ H _ I h) fun xv sa hx => thn hx fun itv sb hb => ?_)
  obtain ⟨it, fp, tn, J, Hb, e, Ib, T, stb, fpb, q⟩ := hb
  subst e
  refine newSet_ok (newEnv_comp ?_)
  generalize eD : sb.heap.objs.size = D
  have Dn : Hb D = none := Ib.hok.fresh (Nat.le_of_eq eD)
  obtain ⟨W, ⟨m0, w0⟩, turn⟩ := q D Dn
  generalize esc : ({ sb with heap := sb.heap.push (newSetObj X.w) } : Shared) = sc
  have Ic : Inv X pins σ (upd Hb D (S.z D)) sc := by
    rw [← esc]
    refine Ib.laid (t' := sb.toks) (fun b o e => Heap.get?_push_of_some _ e) (Nat.le_of_eq eD) ?_
    rw [← eD]
    exact S.fresh _ _
  have hsc : sc.heap = sb.heap.push (newSetObj X.w) := by rw [← esc]
  have below : ∀ b ∈ fp, b < sb.heap.objs.size := fun b hb => let ⟨o, e, _⟩ := T.obj _ _ stb b hb; Heap.lt_size e
  have fpc : ∀ b ∈ fp, FpOk X pins (upd Hb D (S.z D)) b ∧ b < sc.heap.objs.size := fun b hb => by
    have l := below b hb
    refine ⟨⟨?_, (fpb b hb).2⟩, by rw [hsc, Heap.size_push]; exact Nat.lt_succ_of_lt l⟩
    rw [upd_ne (by rw [← eD]; exact Nat.ne_of_lt l)]
    exact (fpb b hb).1
  have stc : tn 0 sc.heap := T.keep _ _ _ stb fun b _ o e => by rw [hsc]; exact Heap.get?_push_of_some _ e
  have Id := block_start Ic ok hN fpc
  have pg := hg sc (upd Hb D (S.z D)) sc.heap.objs.size (cellsFrom (sc.heap.objs.size + 1) scope.names (cloFrom X.env.cells scope.names [])) fp
  have pt := ht sc (upd Hb D (S.z D)) sc.heap.objs.size (cellsFrom (sc.heap.objs.size + 1) scope.names (cloFrom X.env.cells scope.names [])) fp
  have pe := he sc (upd Hb D (S.z D)) sc.heap.objs.size (cellsFrom (sc.heap.objs.size + 1) scope.names (cloFrom X.env.cells scope.names [])) fp
  show codeAny _ _ (.compStart (.SetComp elt [⟨tg, iter, ifs, 0⟩] scope pos) 0 (.ref it) (.ref D) (compEnvC scope (cellsFrom (sc.heap.objs.size + 1) scope.names (cloFrom X.env.cells scope.names [])) sc.heap.objs.size X.env)) (compPost (model X.prog X.w) X.A X.xe use Qf (.ref D) sc.heap.objs.size) { sc with heap := pushCells (sc.heap.push { cls := .type "dict", data := .dict #[] }) scope.names }
  have nfp : ∀ b ∈ fp, (upd Hb D (S.z D)) b = none := fun b hb => (fpc b hb).1.1
  generalize hce : compEnvC scope (cellsFrom (sc.heap.objs.size + 1) scope.names (cloFrom X.env.cells scope.names [])) sc.heap.objs.size X.env = ce at Id pg pt pe ⊢
  have loc : ce.locals = sc.heap.objs.size := by subst hce; rfl
  generalize eHc : upd Hb D (S.z D) = Hc at Ic Id pg pt pe w0 nfp fpc
  generalize esd : ({ sc with heap := pushCells (sc.heap.push { cls := .type "dict", data := .dict #[] }) scope.names } : Shared) = sd at Id ⊢
  have std : tn 0 sd.heap := T.keep _ _ _ stc fun b _ o e => by rw [← esd]; exact pushCells_keeps _ _ _ _ (Heap.get?_push_of_some _ e)
  have stat : ∀ {σ' : L2.St} {H' : Hp} {s' : Shared}, Inv (X.blk sc Hc scope ce fp) [] σ' H' s' → (∀ b ∈ fp, H' b = none) → ∀ b ∈ fp, FpOk (X.blk sc Hc scope ce fp) [] H' b := fun {σ' H' s'} I' hn b hb =>
    ⟨hn b hb, (I'.ok.exf b hb).1, I'.ok.exfs b hb, .inl hb, fun x c e => (I'.ok.exf b hb).2 x c e, fun p hp => absurd (show p ∈ ([] : List (Addr × Obj)) ++ [] from hp) (by simp)⟩
  have loop : codeAny (model X.prog X.w) X.A (.compLoop (.SetComp elt [⟨tg, iter, ifs, 0⟩] scope pos) 0 (.ref it) (.ref D) ce) (compPost (model X.prog X.w) X.A X.xe use Qf (.ref D) sc.heap.objs.size) sd := by
    refine compLoopS_any (fun n s' => ∃ i H', Inv (X.blk sc Hc scope ce fp) [] (wipe σ (own.map (·.2))) H' s' ∧ tn i s'.heap ∧ (∀ b ∈ fp, H' b = none) ∧ W i n H') ?_ m0 ⟨0, Hc, Id, std, nfp, w0⟩
    rintro n s5 ⟨i, H5, I5, st5, n5, w5⟩
    rcases turn i n H5 w5 with ⟨stop, qq⟩ | ⟨go, Nx, toW, step⟩
    · refine thnF (T.done (X.blk sc Hc scope ce fp) rfl rfl rfl hc i [] s5 _ H5 (fun _ _ => False) I5 (stat I5 n5) st5 stop) fun r s6 ⟨hr, I6⟩ => ?_
      subst hr
      have I7 : Inv X pins σ H5 s6 := Ic.call' (ch := fp) I6.os I6.base I6.hok I6.bare fun b hb => ⟨(fpc b hb).1.2.2.2.1, (fpc b hb).1.2.1, (fpc b hb).1.2.2.2.2.1, (fpc b hb).1.2.2.2.2.2⟩
      have nC : H5 sc.heap.objs.size = none := loc ▸ (show H5 ce.locals = none from I6.free)
      obtain ⟨m, hn, _⟩ := I6.loc
      have hn : s6.heap.Ns ce.locals m := hn
      rw [loc] at hn
      exact hRR D sc.heap.objs.size s6 m H5 I7 qq hn (Ic.fpOk (Nat.le_refl _) nC)
    · refine thnF (T.item (X.blk sc Hc scope ce fp) rfl rfl rfl hc i [] s5 _ H5 (fun _ _ => False) I5 (stat I5 n5) st5 go) fun r s6 ⟨u, hr, h6⟩ => ?_
      subst hr
      refine thnF h6 fun _ s7 ⟨x, H7, I7, r7, y7, st7, n7⟩ => ?_
      refine thnF (pg.run _ s7 _ H7 x u _ (I7.pinned (stat I7 n7) (T.obj _ _ st7)) r7 (step x H7 y7)) fun _ s8 ⟨σ8, H8, I8, hw8, q8⟩ => ?_
      refine thnF (pt.run _ s8 σ8 H8 _ I8 q8) fun b s9 ⟨H9, I9, q9⟩ => ?_
      have fin : ∀ {s' : Shared} {H' : Hp}, Inv (X.blk sc Hc scope ce fp) ([] ++ pinsAt fp s7.heap) σ8 H' s' → Nx H' → ∃ m, m < n ∧ ∃ i H', Inv (X.blk sc Hc scope ce fp) [] (wipe σ (own.map (·.2))) H' s' ∧ tn i s'.heap ∧ (∀ b ∈ fp, H' b = none) ∧ W i m H' := fun {s' H'} I' nx => by
        obtain ⟨m', lm, w'⟩ := toW H' nx
        have pin' : ∀ b ∈ fp, ∀ o, s7.heap.get? b = some o → s'.heap.get? b = some o ∧ H' b = none := fun b hb o e =>
          let z := I'.pin (b, o) (List.mem_append_right _ (List.mem_append_right _ (mem_pinsAt hb e)))
          ⟨z.1, z.2.1⟩
        refine ⟨m', lm, i + 1, H', (I'.unpinned (pins := [])).weak (by rw [← hw8, wipe_length]) (fun j v e => ?_), T.keep _ _ _ st7 fun b hb o e => (pin' b hb o e).1, fun b hb => let ⟨o, e, _⟩ := T.obj _ _ st7 b hb; (pin' b hb o e).2, w'⟩
        rw [← hw8] at e
        exact (wipe_some e).1
      cases b with
      | false =>
        simp only [Bool.false_eq_true, if_false] at q9 ⊢
        exact fin I9 q9
      | true =>
        simp only [if_true] at q9 ⊢
        refine thnF (pe.run _ s9 σ8 H9 _ I9 q9) fun v sA ⟨y, HA, IA, rA, qA⟩ => ?_
        exact thnF (S.add (X.blk sc Hc scope ce fp) rfl rfl rfl hu _ sA σ8 HA (.ref D) [y] (.ref D) [v] _ IA rfl (.cons rA .nil) qA) fun _ sB ⟨_, HB, IB, _, nx⟩ => fin IB nx
  exact codeAny_compStart_set loop (T.self X.A 0 _ _ _ std loop)
theorem pe_setC (S : SKind X.prog X.w X.K) {elt tg iter : Expr} {ifs : List Expr} {scope : Scope} {own : List (PySem.Str × Nat)} {pos : Pos} {wi : TI} {g : TG} {tt : TT} {te : TE} (hu : X.A.units + 64 < cLine) (hc : X.calm = true) (hN : X.N.Nodup) (hi : PI X tg iter wi) (ok : BlkOk X.N X.env.scope scope own)
    (hg : ∀ (s : Shared) (H : Hp) (C : Addr) (cl : List (PySem.Str × Addr)) (fp : List Addr), PG (X.blk s H scope (compEnvC scope cl C X.env) fp) tg g) (ht : ∀ (s : Shared) (H : Hp) (C : Addr) (cl : List (PySem.Str × Addr)) (fp : List Addr), PTs (X.blk s H scope (compEnvC scope cl C X.env) fp) ifs tt)
    (he : ∀ (s : Shared) (H : Hp) (C : Addr) (cl : List (PySem.Str × Addr)) (fp : List Addr), PE (X.blk s H scope (compEnvC scope cl C X.env) fp) elt te) (hs : ∀ x, foldedSetIterable iter X.env x = pure x := by intro _; rfl) :
    PE X (.SetComp elt [⟨tg, iter, ifs, 0⟩] scope pos) (tSetC S.r S.z wi g tt te (own.map (·.2))) := by
  refine ⟨fun pins s σ H Q I h => ?_⟩
  rw [eval_SetComp]
  refine setc_core S hu hc hN I hi ok hg ht he hs h fun D C s' m H' I' q hn f => ⟨m, hn, fun h'' sb => ?_⟩
  exact ⟨.ref D, H', I'.turned (t' := s'.toks) (fun b o hb e => (sb.2 b hb).trans e) f.1 f.2.1 f.2.2.2.1 f.2.2.2.2.1 f.2.2.2.2.2, rfl, q⟩
end
/-! ### pairs -/
/-- s.add(t), t a tuple of ints -/
def rAddT (K : PySem.W.Frag) (P : Program) (w : World) : V → List V → Hp → VK → Prop := fun x xs H Q => ∃ (a t : Addr) (k : List Int) (L : List (Addr × List Int)), x = .ref a ∧ xs = [.ref t] ∧ H a = some (SetTO P w a L) ∧ (∀ p ∈ L, SqT K H p.1 (p.2.map V.int)) ∧ SqT K H t (k.map V.int) ∧ L.length + 1 < 64 ∧
  ∀ L', (k ∈ L.map (·.2) → L' = L) → (k ∉ L.map (·.2) → L'.Perm ((t, k) :: L)) → Q .non (upd H a (SetTO P w a L'))
theorem mt_addT {X : Cx} (hu : X.A.units + 64 < cLine) : MtR X "set.add" (rAddT X.K X.prog X.w) := by
  intro pins s σ H x xs v us Q I rx rxs h
  obtain ⟨a, t, k, L, rfl, rfl, ha, hL, hk, few, q⟩ := h
  cases rx
  rw [Vals.ref1 rxs]
  obtain ⟨es, ep, tb, R⟩ := (I.hok a _ ha).1.full fun p hp => I.isT (hL p hp)
  obtain ⟨o, ho, hex, hd⟩ := R.ob
  have ty : s.TypeIs (.ref a) "set" := ⟨o, ho, hex.1⟩
  refine wpAny_call_entry F.slot_set_add ty F.entry_set_add ?_ (F.args_set_add_2 _ _)
  unfold Builtin.«set.add» Builtin.Frozenset.oneOther
  simp only [List.isEmpty_nil, bind_assoc]
  unfold Builtin.Frozenset.addrOf setAdd
  refine wpAny_bind (wpAny_pure ?_)
  try dsimp only
  refine wpAny_bind (wpAny_pure ?_)
  try dsimp only
  refine wpAny_bind (wpAny_holding (wpAny_bind (wpAny_pyHash_tuple (by show _ < cLine; first | omega | (have := hu; simp only [Around.in1, Around.under, Around.units] at *; omega)) (I.isT hk) ?_)))
  refine add_at (s := { s with toks := s.toks + (k.length + 1) }) R (I.isT hk) (by show _ < cLine; first | omega | (have := hu; simp only [Around.in1, Around.under, Around.units] at *; omega)) few fun b h' L' es' ep' t' sb R' c1 c2 => ?_
  show wpAny _ _ (ret Value.none) _ _ _
  have there : ∃ u, h'.get? a = some u := let ⟨o, h1, _⟩ := R'.ob; ⟨o, h1⟩
  exact wpAny_pure ⟨_, rfl, .non, _, I.write (e := a) (t' := s.toks + (k.length + 1)) (by rw [ha]; trivial) (.inl rfl) (fun b u hb hu => (sb.2 b hb).trans hu) there (setTO_new R'.t0), rfl, q L' c1 c2⟩
def pairK (P : Program) (w : World) (K : PySem.W.Frag) : SKind P w K where
  z := fun D => SetTO P w D []
  r := rAddT K P w
  fresh := fun H h => setTO_new (setTR_fresh (P := P) (w := w) (Heap.get?_push_size _ rfl)).t0
  add := fun Y e1 e2 e3 hu => by subst e1 e2 e3; exact mt_addT hu
end K18

/-! k18: {e for .. in .. for .. in ..}; sets of ints. -/
namespace K18
open PySem PySem.Spec PyProof.Rows L2 LamX K1 PpSet

section
variable {prog : Program} {w : World} {A : Around} {R : Result → Shared → Prop} {s : Shared} {elt t0 i0 t1 i1 : Expr} {f0 f1 : List Expr} {scope : Scope} {pos : Pos} {it acc : Value} {env : Env}
abbrev twoC (elt t0 i0 t1 i1 : Expr) (f0 f1 : List Expr) (scope : Scope) (pos : Pos) : Expr := .SetComp elt [⟨t0, i0, f0, 0⟩, ⟨t1, i1, f1, 0⟩] scope pos
theorem turn_out : compTurn (twoC elt t0 i0 t1 i1 f0 f1 scope pos) 0 it acc env = (do
      standAt i0.pos
      match ← pyNext it with
      | none => pure (.done .next)
      | some v =>
        letOwnedTupleGo t0 it v
        assign t0 env v
        let mut ok := true
        for c in f0 do
          if ok then ok ← isTrue c env (eval c env)
        if ok then
          let x ← eval i1 env
          standAt i1.pos
          let x ← foldedSetIterable i1 env x
          let _ ← runOwn (.compStart (twoC elt t0 i0 t1 i1 f0 f1 scope pos) 1 (← holding [x] (pyIter x)) acc env) env
        again (.compLoop (twoC elt t0 i0 t1 i1 f0 f1 scope pos) 0 it acc env)) := by rfl
theorem turn_in : compTurn (twoC elt t0 i0 t1 i1 f0 f1 scope pos) 1 it acc env = (do
      standAt i1.pos
      match ← pyNext it with
      | none => pure (.done .next)
      | some v =>
        letOwnedTupleGo t1 it v
        assign t1 env v
        let mut ok := true
        for c in f1 do
          if ok then ok ← isTrue c env (eval c env)
        if ok then
          (do let v ← eval elt env; standAt elt.pos; let _ ← call (.builtin "set.add") [acc, v])
        again (.compLoop (twoC elt t0 i0 t1 i1 f0 f1 scope pos) 1 it acc env)) := by rfl
theorem loop_out (hs : ∀ x, foldedSetIterable i1 env x = pure x) (I : Nat → Shared → Prop)
    (turn : ∀ n s, I n s → wpAny (model prog w) A (pyNext it) (fun r sa => match r with
      | none => R (.ok .next) sa
      | some v => wpAny (model prog w) A (letOwnedTupleGo t0 it v) (fun _ sb => wpAny (model prog w) A (assign t0 env v) (fun _ sc =>
          wpAny (model prog w) A (forIn f0 true fun c r => if r = true then do let ok ← isTrue c env (eval c env); pure (ForInStep.yield ok) else pure (ForInStep.yield r)) (fun ok sd =>
            if ok = true then wpAny (model prog w) A (eval i1 env) (fun x se => wpAny (model prog w) A (pyIter x) (fun it1 sf =>
              codeAny (model prog w) A (.compStart (twoC elt t0 i0 t1 i1 f0 f1 scope pos) 1 it1 acc env) (fun r s' => match r with
                | .ok _ => ∃ m, m < n ∧ I m s'
                | .error _ => False) sf) (notedBy (model prog w) A env fun e s' => R (.error e) s') se) (notedBy (model prog w) A env fun e s' => R (.error e) s') sd
            else ∃ m, m < n ∧ I m sd) (notedBy (model prog w) A env fun e s' => R (.error e) s') sc) (notedBy (model prog w) A env fun e s' => R (.error e) s') sb) (notedBy (model prog w) A env fun e s' => R (.error e) s') sa) (notedBy (model prog w) A env fun e s' => R (.error e) s') s)
    (n : Nat) (h : I n s) : codeAny (model prog w) A (.compLoop (twoC elt t0 i0 t1 i1 f0 f1 scope pos) 0 it acc env) R s := by
  refine codeAny_loop rfl I (fun n s hI => ?_) n h
  show wpAny _ A ((compTurn (twoC elt t0 i0 t1 i1 f0 f1 scope pos) 0 it acc env).onRaise (fun x => do noteFrame x env; theTreesLotGoes x)) _ _ s
  refine wpAny_noted ?_
  rw [turn_out]
  refine wpAny_bind (wpAny_standAt (wpAny_bind (wpAny_mono (turn n s hI) (fun r sa ha => ?_) fun _ _ z => z)))
  rcases r with _ | v
  · exact wpAny_pure ha
  · refine wpAny_bind (wpAny_mono ha (fun _ sb hb => wpAny_bind (wpAny_mono hb (fun _ sc hc => wpAny_bind (wpAny_mono hc (fun ok sd hd => ?_) fun _ _ z => z)) fun _ _ z => z)) fun _ _ z => z)
    cases ok with
    | false => exact wpAny_pure ⟨rfl, hd⟩
    | true =>
      refine wpAny_bind (wpAny_mono hd (fun x se he => ?_) fun _ _ z => z)
      refine wpAny_bind (wpAny_standAt (wpAny_bind (wpAny_of_eq (hs x) (wpAny_bind (wpAny_holding (wpAny_mono he (fun it1 sf hf => ?_) fun _ _ z => z))))))
      refine wpAny_bind (wpAny_runOwn ?_)
      rw [Around.mark_none]
      refine codeAny_mono hf fun r s' hr => ?_
      rcases r with e | f
      · exact hr.elim
      · first
          | exact wpAny_pure ⟨rfl, hr⟩
          | exact wpAny_bind (wpAny_pure (wpAny_pure ⟨rfl, hr⟩))
theorem loop_in (I : Nat → Shared → Prop)
    (turn : ∀ n s, I n s → wpAny (model prog w) A (pyNext it) (fun r sa => match r with
      | none => R (.ok .next) sa
      | some v => wpAny (model prog w) A (letOwnedTupleGo t1 it v) (fun _ sb => wpAny (model prog w) A (assign t1 env v) (fun _ sc =>
          wpAny (model prog w) A (forIn f1 true fun c r => if r = true then do let ok ← isTrue c env (eval c env); pure (ForInStep.yield ok) else pure (ForInStep.yield r)) (fun ok sd =>
            if ok = true then wpAny (model prog w) A (eval elt env) (fun x se =>
              wpAny (model prog w) A (call (.builtin "set.add") [acc, x]) (fun _ sf => ∃ m, m < n ∧ I m sf) (notedBy (model prog w) A env fun e s' => R (.error e) s') se) (notedBy (model prog w) A env fun e s' => R (.error e) s') sd
            else ∃ m, m < n ∧ I m sd) (notedBy (model prog w) A env fun e s' => R (.error e) s') sc) (notedBy (model prog w) A env fun e s' => R (.error e) s') sb) (notedBy (model prog w) A env fun e s' => R (.error e) s') sa) (notedBy (model prog w) A env fun e s' => R (.error e) s') s)
    (n : Nat) (h : I n s) : codeAny (model prog w) A (.compLoop (twoC elt t0 i0 t1 i1 f0 f1 scope pos) 1 it acc env) R s := by
  refine codeAny_loop rfl I (fun n s hI => ?_) n h
  show wpAny _ A ((compTurn (twoC elt t0 i0 t1 i1 f0 f1 scope pos) 1 it acc env).onRaise (fun x => do noteFrame x env; theTreesLotGoes x)) _ _ s
  refine wpAny_noted ?_
  rw [turn_in]
  refine wpAny_bind (wpAny_standAt (wpAny_bind (wpAny_mono (turn n s hI) (fun r sa ha => ?_) fun _ _ z => z)))
  rcases r with _ | v
  · exact wpAny_pure ha
  · refine wpAny_bind (wpAny_mono ha (fun _ sb hb => wpAny_bind (wpAny_mono hb (fun _ sc hc => wpAny_bind (wpAny_mono hc (fun ok sd hd => ?_) fun _ _ z => z)) fun _ _ z => z)) fun _ _ z => z)
    cases ok with
    | false => exact wpAny_pure ⟨rfl, hd⟩
    | true => exact wpAny_bind (wpAny_bind (wpAny_mono hd (fun x se he => wpAny_bind (wpAny_standAt (wpAny_bind (wpAny_mono he (fun _ sf hf => wpAny_pure (wpAny_pure ⟨rfl, hf⟩)) fun _ _ z => z)))) fun _ _ z => z))
theorem start_in (h0 : codeAny (model prog w) A (.compLoop (twoC elt t0 i0 t1 i1 f0 f1 scope pos) 1 it acc env) R s)
    (h : wpAny (model prog w) A (pyIter it) (fun itx s' => codeAny (model prog w) A (.compLoop (twoC elt t0 i0 t1 i1 f0 f1 scope pos) 1 itx acc env) R s') (notedBy (model prog w) A env fun x s' => R (.error x) s') s) :
    codeAny (model prog w) A (.compStart (twoC elt t0 i0 t1 i1 f0 f1 scope pos) 1 it acc env) R s := by
  refine codeAny_of_tree ?_
  show wpAny _ _ ((compStart (twoC elt t0 i0 t1 i1 f0 f1 scope pos) 1 it acc env).onRaise (fun x => do noteFrame x env; standAt theWindowsPlace)) _ _ s
  refine wpAny_notedAt ?_
  unfold compStart
  show wpAny _ _ (ask >>= _) _ _ s
  refine wpAny_bind (wpAny_askSetting (wpAny_ite ?_))
  split
  · first
      | exact wpAny_bind (wpAny_pure (wpAny_pure ⟨rfl, h0⟩))
      | exact wpAny_pure ⟨rfl, h0⟩
  · first
      | exact wpAny_bind (wpAny_rule (wpAny_bind (wpAny_standAt (wpAny_bind (wpAny_mono h (fun itx s' hx => wpAny_pure ⟨rfl, hx⟩) fun _ _ z => z)))))
      | (refine wpAny_bind (wpAny_rule ?_); show wpAny _ _ (standAt i1.pos >>= _) _ _ s; exact wpAny_bind (wpAny_standAt (wpAny_bind (wpAny_mono h (fun itx s' hx => wpAny_pure ⟨rfl, hx⟩) fun _ _ z => z))))
end
section
variable {X : Cx}
def tSetC2 (r : V → List V → Hp → VK → Prop) (z : Addr → HO) (wi : TI) (g : TG) (tt : TT) (wi1 : TI) (g1 : TG) (tt1 : TT) (te : TE) (vs vs1 : List Nat) : TE := fun σ H Q => wi σ H fun J H1 => ∀ D, H1 D = none → ∃ W : Nat → Nat → Hp → Prop, (∃ m, W 0 m (upd H1 D (z D))) ∧ ∀ i m H, W i m H →
  (J.stop i H ∧ Q (.ref D) H) ∨ (J.go i H ∧ ∃ Nx : Hp → Prop, (∀ H', Nx H' → ∃ m', m' < m ∧ W (i + 1) m' H') ∧ ∀ x H', J.yld i H x H' → g x (wipe σ vs) H' fun σ2 H2 => wipe σ2 vs = wipe σ vs ∧ tt σ2 H2 fun b H3 =>
    if b = true then wi1 σ2 H3 fun J1 H4 => ∃ W1 : Nat → Nat → Hp → Prop, (∃ m, W1 0 m H4) ∧ ∀ j k H, W1 j k H →
      (J1.stop j H ∧ Nx H) ∨ (J1.go j H ∧ ∃ Nx1 : Hp → Prop, (∀ H', Nx1 H' → ∃ k', k' < k ∧ W1 (j + 1) k' H') ∧ ∀ x H', J1.yld j H x H' → g1 x (wipe σ2 vs1) H' fun σ3 H5 => wipe σ3 vs1 = wipe σ2 vs1 ∧ tt1 σ3 H5 fun b H6 =>
        if b = true then te σ3 H6 fun y H7 => r (.ref D) [y] H7 fun _ H8 => Nx1 H8 else Nx1 H6)
    else Nx H3)
theorem setc2_core (S : SKind X.prog X.w X.K) {pins : List (Addr × Obj)} {s : Shared} {σ : L2.St} {H : Hp} {Q : VK} {elt tg iter tg1 iter1 : Expr} {ifs ifs1 : List Expr} {scope : Scope} {own : List (PySem.Str × Nat)} {vs1 : List Nat} {pos pos' : Pos} {wi wi1 : TI} {g g1 : TG} {tt tt1 : TT} {te : TE} {use : Option (Value → Sem Unit)} {Qf : Value → Shared → Prop}
    (hu : X.A.units + 64 < cLine) (hc : X.calm = true) (hN : X.N.Nodup) (I : Inv X pins σ H s) (hi : PI X tg iter wi) (ok : BlkOk X.N X.env.scope scope own) (hv : ∀ i ∈ vs1, i ∈ own.map (·.2))
    (hg : ∀ (s : Shared) (H : Hp) (C : Addr) (cl : List (PySem.Str × Addr)) (fp : List Addr), PG (X.blk s H scope (compEnvC scope cl C X.env) fp) tg g) (ht : ∀ (s : Shared) (H : Hp) (C : Addr) (cl : List (PySem.Str × Addr)) (fp : List Addr), PTs (X.blk s H scope (compEnvC scope cl C X.env) fp) ifs tt)
    (he : ∀ (s : Shared) (H : Hp) (C : Addr) (cl : List (PySem.Str × Addr)) (fp : List Addr), PE (X.blk s H scope (compEnvC scope cl C X.env) fp) elt te) (hs : ∀ x, foldedSetIterable iter X.env x = pure x)
    (hi1 : ∀ (s : Shared) (H : Hp) (C : Addr) (cl : List (PySem.Str × Addr)) (fp : List Addr), PI (X.blk s H scope (compEnvC scope cl C X.env) fp) tg1 iter1 wi1)
    (hg1 : ∀ (s : Shared) (H : Hp) (C : Addr) (cl : List (PySem.Str × Addr)) (fp : List Addr), PG (X.blk s H scope (compEnvC scope cl C X.env) fp) tg1 g1)
    (ht1 : ∀ (s : Shared) (H : Hp) (C : Addr) (cl : List (PySem.Str × Addr)) (fp : List Addr), PTs (X.blk s H scope (compEnvC scope cl C X.env) fp) ifs1 tt1)
    (hs1 : ∀ env x, foldedSetIterable iter1 env x = pure x) (h : tSetC2 S.r S.z wi g tt wi1 g1 tt1 te (own.map (·.2)) vs1 σ H Q)
    (hRR : ∀ D C s' m H', Inv X pins σ H' s' → Q (.ref D) H' → s'.heap.Ns C m → FpOk X pins H' C → compPost (model X.prog X.w) X.A X.xe use Qf (.ref D) C (.ok .next) s') :
    wpAny (model X.prog X.w) X.A (comprehension (twoC elt tg iter tg1 iter1 ifs ifs1 scope pos) scope X.env pos' (newSet (.type "set")) false (eval iter X.env) use) Qf X.xe s := by
  have cellsThere : ∀ y ∈ scope.names, y.2 = .free → ∃ c, X.env.cells.lookup y.1 = some c := fun y hy e => (ok.free y hy e).elim (fun k => I.ok.has _ (.inl k)) fun k => I.ok.has _ (.inr k)
  refine wpAny_comprehension_free (use := use) rfl hs (closure_ok cellsThere) ok.kind (fun y hy e => by rw [ok.uniq y hy, e])
    (thn (hi.run pins s σ H _ I h) fun xv sa hx => thn hx fun itv sb hb => ?_)
  obtain ⟨it, fp, tn, J, Hb, e, Ib, T, stb, fpb, q⟩ := hb
  subst e
  refine newSet_ok (newEnv_comp ?_)
  generalize eD : sb.heap.objs.size = D
  have Dn : Hb D = none := Ib.hok.fresh (Nat.le_of_eq eD)
  obtain ⟨W, ⟨m0, w0⟩, turn⟩ := q D Dn
  generalize esc : ({ sb with heap := sb.heap.push (newSetObj X.w) } : Shared) = sc
  have Ic : Inv X pins σ (upd Hb D (S.z D)) sc := by
    rw [← esc]
    refine Ib.laid (t' := sb.toks) (fun b o e => Heap.get?_push_of_some _ e) (Nat.le_of_eq eD) ?_
    rw [← eD]
    exact S.fresh _ _
  have hsc : sc.heap = sb.heap.push (newSetObj X.w) := by rw [← esc]
  have below : ∀ b ∈ fp, b < sb.heap.objs.size := fun b hb => let ⟨o, e, _⟩ := T.obj _ _ stb b hb; Heap.lt_size e
  have fpc : ∀ b ∈ fp, FpOk X pins (upd Hb D (S.z D)) b ∧ b < sc.heap.objs.size := fun b hb => by
    have l := below b hb
    refine ⟨⟨?_, (fpb b hb).2⟩, by rw [hsc, Heap.size_push]; exact Nat.lt_succ_of_lt l⟩
    rw [upd_ne (by rw [← eD]; exact Nat.ne_of_lt l)]
    exact (fpb b hb).1
  have stc : tn 0 sc.heap := T.keep _ _ _ stb fun b _ o e => by rw [hsc]; exact Heap.get?_push_of_some _ e
  have Id := block_start Ic ok hN fpc
  have pg := hg sc (upd Hb D (S.z D)) sc.heap.objs.size (cellsFrom (sc.heap.objs.size + 1) scope.names (cloFrom X.env.cells scope.names [])) fp
  have pt := ht sc (upd Hb D (S.z D)) sc.heap.objs.size (cellsFrom (sc.heap.objs.size + 1) scope.names (cloFrom X.env.cells scope.names [])) fp
  have pe := he sc (upd Hb D (S.z D)) sc.heap.objs.size (cellsFrom (sc.heap.objs.size + 1) scope.names (cloFrom X.env.cells scope.names [])) fp
  have qi := hi1 sc (upd Hb D (S.z D)) sc.heap.objs.size (cellsFrom (sc.heap.objs.size + 1) scope.names (cloFrom X.env.cells scope.names [])) fp
  have qg := hg1 sc (upd Hb D (S.z D)) sc.heap.objs.size (cellsFrom (sc.heap.objs.size + 1) scope.names (cloFrom X.env.cells scope.names [])) fp
  have qt := ht1 sc (upd Hb D (S.z D)) sc.heap.objs.size (cellsFrom (sc.heap.objs.size + 1) scope.names (cloFrom X.env.cells scope.names [])) fp
  show codeAny _ _ (.compStart (twoC elt tg iter tg1 iter1 ifs ifs1 scope pos) 0 (.ref it) (.ref D) (compEnvC scope (cellsFrom (sc.heap.objs.size + 1) scope.names (cloFrom X.env.cells scope.names [])) sc.heap.objs.size X.env)) (compPost (model X.prog X.w) X.A X.xe use Qf (.ref D) sc.heap.objs.size) { sc with heap := pushCells (sc.heap.push { cls := .type "dict", data := .dict #[] }) scope.names }
  have nfp : ∀ b ∈ fp, (upd Hb D (S.z D)) b = none := fun b hb => (fpc b hb).1.1
  generalize hce : compEnvC scope (cellsFrom (sc.heap.objs.size + 1) scope.names (cloFrom X.env.cells scope.names [])) sc.heap.objs.size X.env = ce at Id pg pt pe qi qg qt ⊢
  have loc : ce.locals = sc.heap.objs.size := by subst hce; rfl
  generalize eHc : upd Hb D (S.z D) = Hc at Ic Id pg pt pe qi qg qt w0 nfp fpc
  generalize esd : ({ sc with heap := pushCells (sc.heap.push { cls := .type "dict", data := .dict #[] }) scope.names } : Shared) = sd at Id ⊢
  have std : tn 0 sd.heap := T.keep _ _ _ stc fun b _ o e => by rw [← esd]; exact pushCells_keeps _ _ _ _ (Heap.get?_push_of_some _ e)
  have stat : ∀ {σ' : L2.St} {H' : Hp} {s' : Shared}, Inv (X.blk sc Hc scope ce fp) [] σ' H' s' → (∀ b ∈ fp, H' b = none) → ∀ b ∈ fp, FpOk (X.blk sc Hc scope ce fp) [] H' b := fun {σ' H' s'} I' hn b hb =>
    ⟨hn b hb, (I'.ok.exf b hb).1, I'.ok.exfs b hb, .inl hb, fun x c e => (I'.ok.exf b hb).2 x c e, fun p hp => absurd (show p ∈ ([] : List (Addr × Obj)) ++ [] from hp) (by simp)⟩
  have loop : codeAny (model X.prog X.w) X.A (.compLoop (twoC elt tg iter tg1 iter1 ifs ifs1 scope pos) 0 (.ref it) (.ref D) ce) (compPost (model X.prog X.w) X.A X.xe use Qf (.ref D) sc.heap.objs.size) sd := by
    refine loop_out (hs1 ce) (fun n s' => ∃ i H', Inv (X.blk sc Hc scope ce fp) [] (wipe σ (own.map (·.2))) H' s' ∧ tn i s'.heap ∧ (∀ b ∈ fp, H' b = none) ∧ W i n H') ?_ m0 ⟨0, Hc, Id, std, nfp, w0⟩
    rintro n s5 ⟨i, H5, I5, st5, n5, w5⟩
    rcases turn i n H5 w5 with ⟨stop, qq⟩ | ⟨go, Nx, toW, step⟩
    · refine thnF (T.done (X.blk sc Hc scope ce fp) rfl rfl rfl hc i [] s5 _ H5 (fun _ _ => False) I5 (stat I5 n5) st5 stop) fun r s6 ⟨hr, I6⟩ => ?_
      subst hr
      have I7 : Inv X pins σ H5 s6 := Ic.call' (ch := fp) I6.os I6.base I6.hok I6.bare fun b hb => ⟨(fpc b hb).1.2.2.2.1, (fpc b hb).1.2.1, (fpc b hb).1.2.2.2.2.1, (fpc b hb).1.2.2.2.2.2⟩
      have nC : H5 sc.heap.objs.size = none := loc ▸ (show H5 ce.locals = none from I6.free)
      obtain ⟨m, hn, _⟩ := I6.loc
      have hn : s6.heap.Ns ce.locals m := hn
      rw [loc] at hn
      exact hRR D sc.heap.objs.size s6 m H5 I7 qq hn (Ic.fpOk (Nat.le_refl _) nC)
    · refine thnF (T.item (X.blk sc Hc scope ce fp) rfl rfl rfl hc i [] s5 _ H5 (fun _ _ => False) I5 (stat I5 n5) st5 go) fun r s6 ⟨u, hr, h6⟩ => ?_
      subst hr
      refine thnF h6 fun _ s7 ⟨x, H7, I7, r7, y7, st7, n7⟩ => ?_
      refine thnF (pg.run _ s7 _ H7 x u _ (I7.pinned (stat I7 n7) (T.obj _ _ st7)) r7 (step x H7 y7)) fun _ s8 ⟨σ8, H8, I8, hw8, q8⟩ => ?_
      refine thnF (pt.run _ s8 σ8 H8 _ I8 q8) fun b s9 ⟨H9, I9, q9⟩ => ?_
      have fin : ∀ {σ9 : L2.St} {s' : Shared} {H' : Hp}, Inv (X.blk sc Hc scope ce fp) ([] ++ pinsAt fp s7.heap) σ9 H' s' → (wipe σ (own.map (·.2))).length = σ9.length → (∀ (j : Nat) v, (wipe σ (own.map (·.2)))[j]? = some (some v) → σ9[j]? = some (some v)) → Nx H' →
          ∃ m, m < n ∧ ∃ i H', Inv (X.blk sc Hc scope ce fp) [] (wipe σ (own.map (·.2))) H' s' ∧ tn i s'.heap ∧ (∀ b ∈ fp, H' b = none) ∧ W i m H' := fun {σ9 s' H'} I' hl hk nx => by
        obtain ⟨m', lm, w'⟩ := toW H' nx
        have pin' : ∀ b ∈ fp, ∀ o, s7.heap.get? b = some o → s'.heap.get? b = some o ∧ H' b = none := fun b hb o e =>
          let z := I'.pin (b, o) (List.mem_append_right _ (List.mem_append_right _ (mem_pinsAt hb e)))
          ⟨z.1, z.2.1⟩
        exact ⟨m', lm, i + 1, H', (I'.unpinned (pins := [])).weak hl hk, T.keep _ _ _ st7 fun b hb o e => (pin' b hb o e).1, fun b hb => let ⟨o, e, _⟩ := T.obj _ _ st7 b hb; (pin' b hb o e).2, w'⟩
      have l8 : (wipe σ (own.map (·.2))).length = σ8.length := by rw [← hw8, wipe_length]
      have k8 : ∀ (j : Nat) v, (wipe σ (own.map (·.2)))[j]? = some (some v) → σ8[j]? = some (some v) := fun j v e => by
        rw [← hw8] at e
        exact (wipe_some e).1
      have k9 : ∀ (j : Nat) v, (wipe σ (own.map (·.2)))[j]? = some (some v) → (wipe σ8 vs1)[j]? = some (some v) := fun j v e => by
        rw [← hw8] at e
        obtain ⟨e1, e2⟩ := wipe_some e
        rw [wipe_out fun z => e2 (hv j z)]
        exact e1
      cases b with
      | false =>
        simp only [Bool.false_eq_true, if_false] at q9 ⊢
        exact fin I9 l8 k8 q9
      | true =>
        simp only [if_true] at q9 ⊢
        refine thnF (qi.run _ s9 σ8 H9 _ I9 q9) fun xv sA hx => thnF hx fun itv sB hB => ?_
        obtain ⟨it1, fp1, tn1, J1, HB, e1, IB, T1, stB, fB, W1, ⟨m1, w1⟩, turn1⟩ := hB
        subst e1
        have stat1 : ∀ {H' : Hp}, (∀ b ∈ fp1, H' b = none) → ∀ b ∈ fp1, FpOk (X.blk sc Hc scope ce fp) ([] ++ pinsAt fp s7.heap) H' b := fun hn b hb => ⟨hn b hb, (fB b hb).2⟩
        have inner : codeAny (model X.prog X.w) X.A (.compLoop (twoC elt tg iter tg1 iter1 ifs ifs1 scope pos) 1 (.ref it1) (.ref D) ce)
            (fun r s' => match r with
              | .ok _ => ∃ m, m < n ∧ ∃ i H', Inv (X.blk sc Hc scope ce fp) [] (wipe σ (own.map (·.2))) H' s' ∧ tn i s'.heap ∧ (∀ b ∈ fp, H' b = none) ∧ W i m H'
              | .error _ => False) sB := by
          refine loop_in (fun k s' => ∃ j H', Inv (X.blk sc Hc scope ce fp) ([] ++ pinsAt fp s7.heap) (wipe σ8 vs1) H' s' ∧ tn1 j s'.heap ∧ (∀ b ∈ fp1, H' b = none) ∧ W1 j k H') ?_ m1 ⟨0, HB, IB.weak (wipe_length _ _) (fun j v e => (wipe_some e).1), stB, fun b hb => (fB b hb).1, w1⟩
          rintro k sC ⟨j, HC, IC, stC, nC, wC⟩
          rcases turn1 j k HC wC with ⟨stop1, nx1⟩ | ⟨go1, Nx1, toW1, step1⟩
          · refine thnF (T1.done (X.blk sc Hc scope ce fp) rfl rfl rfl hc j _ sC (wipe σ8 vs1) HC (fun _ _ => False) IC (stat1 nC) stC stop1) fun r sE ⟨hr, IE⟩ => ?_
            subst hr
            exact fin IE (l8.trans (wipe_length σ8 vs1).symm) k9 nx1
          · refine thnF (T1.item (X.blk sc Hc scope ce fp) rfl rfl rfl hc j _ sC (wipe σ8 vs1) HC (fun _ _ => False) IC (stat1 nC) stC go1) fun r sE ⟨u1, hr, hE⟩ => ?_
            subst hr
            refine thnF hE fun _ sF ⟨x1, HF, IF, rF, yF, stF, nF⟩ => ?_
            refine thnF (qg.run _ sF (wipe σ8 vs1) HF x1 u1 _ (IF.pinned (stat1 nF) (T1.obj _ _ stF)) rF (step1 x1 HF yF)) fun _ sG ⟨σG, HG, IG, hwG, qG⟩ => ?_
            refine thnF (qt.run _ sG σG HG _ IG qG) fun b1 sI ⟨HI, II, qI⟩ => ?_
            have fin1 : ∀ {s' : Shared} {H' : Hp}, Inv (X.blk sc Hc scope ce fp) (([] ++ pinsAt fp s7.heap) ++ pinsAt fp1 sF.heap) σG H' s' → Nx1 H' → ∃ m, m < k ∧ ∃ j H', Inv (X.blk sc Hc scope ce fp) ([] ++ pinsAt fp s7.heap) (wipe σ8 vs1) H' s' ∧ tn1 j s'.heap ∧ (∀ b ∈ fp1, H' b = none) ∧ W1 j m H' := fun {s' H'} I' nx => by
              obtain ⟨m', lm, w'⟩ := toW1 H' nx
              have pin' : ∀ b ∈ fp1, ∀ o, sF.heap.get? b = some o → s'.heap.get? b = some o ∧ H' b = none := fun b hb o e =>
                let z := I'.pin (b, o) (List.mem_append_right _ (List.mem_append_right _ (mem_pinsAt hb e)))
                ⟨z.1, z.2.1⟩
              exact ⟨m', lm, j + 1, H', I'.unpinned.weak (by rw [← hwG, wipe_length]) (fun j v e => by rw [← hwG] at e; exact (wipe_some e).1), T1.keep _ _ _ stF fun b hb o e => (pin' b hb o e).1, fun b hb => let ⟨o, e, _⟩ := T1.obj _ _ stF b hb; (pin' b hb o e).2, w'⟩
            cases b1 with
            | false =>
              simp only [Bool.false_eq_true, if_false] at qI ⊢
              exact fin1 II qI
            | true =>
              simp only [if_true] at qI ⊢
              refine thnF (pe.run _ sI σG HI _ II qI) fun v sJ ⟨y, HJ, IJ, rJ, qJ⟩ => ?_
              exact thnF (S.add (X.blk sc Hc scope ce fp) rfl rfl rfl hu _ sJ σG HJ (.ref D) [y] (.ref D) [v] _ IJ rfl (.cons rJ .nil) qJ) fun _ sK ⟨_, HK, IK, _, nx⟩ => fin1 IK nx
        exact start_in inner (T1.self X.A 0 _ _ _ stB inner)
  exact codeAny_compStart_set loop (T.self X.A 0 _ _ _ std loop)
theorem pe_setC2 (S : SKind X.prog X.w X.K) {elt tg iter tg1 iter1 : Expr} {ifs ifs1 : List Expr} {scope : Scope} {own : List (PySem.Str × Nat)} {vs1 : List Nat} {pos : Pos} {wi wi1 : TI} {g g1 : TG} {tt tt1 : TT} {te : TE} (hu : X.A.units + 64 < cLine) (hc : X.calm = true) (hN : X.N.Nodup) (hi : PI X tg iter wi) (ok : BlkOk X.N X.env.scope scope own) (hv : ∀ i ∈ vs1, i ∈ own.map (·.2))
    (hg : ∀ (s : Shared) (H : Hp) (C : Addr) (cl : List (PySem.Str × Addr)) (fp : List Addr), PG (X.blk s H scope (compEnvC scope cl C X.env) fp) tg g) (ht : ∀ (s : Shared) (H : Hp) (C : Addr) (cl : List (PySem.Str × Addr)) (fp : List Addr), PTs (X.blk s H scope (compEnvC scope cl C X.env) fp) ifs tt)
    (hi1 : ∀ (s : Shared) (H : Hp) (C : Addr) (cl : List (PySem.Str × Addr)) (fp : List Addr), PI (X.blk s H scope (compEnvC scope cl C X.env) fp) tg1 iter1 wi1)
    (hg1 : ∀ (s : Shared) (H : Hp) (C : Addr) (cl : List (PySem.Str × Addr)) (fp : List Addr), PG (X.blk s H scope (compEnvC scope cl C X.env) fp) tg1 g1) (ht1 : ∀ (s : Shared) (H : Hp) (C : Addr) (cl : List (PySem.Str × Addr)) (fp : List Addr), PTs (X.blk s H scope (compEnvC scope cl C X.env) fp) ifs1 tt1)
    (he : ∀ (s : Shared) (H : Hp) (C : Addr) (cl : List (PySem.Str × Addr)) (fp : List Addr), PE (X.blk s H scope (compEnvC scope cl C X.env) fp) elt te) (hs : ∀ x, foldedSetIterable iter X.env x = pure x := by intro _; rfl) (hs1 : ∀ env x, foldedSetIterable iter1 env x = pure x := by intro _ _; rfl) :
    PE X (twoC elt tg iter tg1 iter1 ifs ifs1 scope pos) (tSetC2 S.r S.z wi g tt wi1 g1 tt1 te (own.map (·.2)) vs1) := by
  refine ⟨fun pins s σ H Q I h => ?_⟩
  rw [eval_SetComp]
  refine setc2_core S hu hc hN I hi ok hv hg ht he hs hi1 hg1 ht1 hs1 h fun D C s' m H' I' q hn f => ⟨m, hn, fun h'' sb => ?_⟩
  exact ⟨.ref D, H', I'.turned (t' := s'.toks) (fun b o hb e => (sb.2 b hb).trans e) f.1 f.2.1 f.2.2.2.1 f.2.2.2.2.1 f.2.2.2.2.2, rfl, q⟩
end
/-- sets of ints -/
def intK (P : Program) (w : World) (K : PySem.W.Frag) : SKind P w K where
  z := fun D => SetO w D (fun _ => false) 0
  r := rSAdd w
  fresh := fun H h => setO_new (setR_fresh w)
  add := fun Y e1 e2 e3 _ => by subst e1 e2 e3; exact mt_sadd
end K18

/-! k18: try .. with several `except X as n`; isinstance of a caught exception that has a dict. -/
namespace K18
open PySem PySem.Spec PyProof.Rows L2 LamX K1

/-- the clauses' wishes, n in slot i: behind a suite the name is gone -/
def wAsMany (K : PySem.W.Frag) (i : Nat) (Wout : WX) (D : Ends) : List (Value × (Addr → Value → Option Addr → TS)) → WX
  | [] => Wout
  | (c, ts) :: r => fun cls d σ H => ∃ b, PySem.W.exmOne K cls c = some b ∧
      (b = true → ∀ a, H a = none → ts a cls d { nx := fun σ' H' => D.nx (σ'.set i none) H', rt := D.rt, bk := fun σ' H' => D.bk (σ'.set i none) H', ct := fun σ' H' => D.ct (σ'.set i none) H' } (σ.set i (some (.ref a))) H) ∧ (b = false → wAsMany K i Wout D r cls d σ H)
inductive AsOk (X : Cx) (n : Str) : List ExceptHandler → List (Value × (Addr → Value → Option Addr → TS)) → Prop
  | nil : AsOk X n [] []
  | cons {x : Str} {c : Value} {ts : Addr → Value → Option Addr → TS} {b1 : Stmt} {more : List Stmt} {np p2 : Pos} {hds : List ExceptHandler} {l : List (Value × (Addr → Value → Option Addr → TS))} (hc : Names X x c)
      (hsu : ∀ (a : Addr) (oe : Obj) (cls : Value) (d : Option Addr) (pn : List (Addr × Obj)), Zc cls d oe → (∃ vs, oe.data = .fields vs) → PSs (X.suite a ((a, oe) :: pn)) (b1 :: more) (ts a cls d)) (r : AsOk X n hds l) :
      AsOk X n (.ExceptHandler (some (.Name x np)) (some n) (b1 :: more) p2 :: hds) ((c, ts) :: l)
theorem ps_try_manyAs {X : Cx} {body : List Stmt} {h1 : ExceptHandler} {hds : List ExceptHandler} {l : List (Value × (Addr → Value → Option Addr → TS))} {pos : Pos} {tb : WX → TS} {Wout : WX} {i : Nat} {n : Str} (st : X.stack = X.env :: X.outer) (hf : X.env.frame = some X.env.locals) (hN : X.N.Nodup) (hi : X.N[i]? = some n) (hln : X.env.kindOf n = some .local) (tk : Takes X Wout)
    (hb : ∀ (W : WX) (pn : List (Addr × Obj)) (xe : Value → Shared → Prop), Takes (X.tr pn xe) W → PassesOwn (model X.prog X.w) X.A X.env xe → PSs (X.tr pn xe) body (tb W))
    (hh : AsOk X n (h1 :: hds) l) : PS X (.Try body (h1 :: hds) [] [] pos) (fun D σ H => tb (wAsMany X.K i Wout D l) D σ H) := by
  refine ⟨fun pins s σ H D I h => ?_⟩
  have ok := I.ok
  have fr : X.A.frames = some (X.env :: X.outer) := by rw [ok.frames, st]
  have hloc : Loc X.env.scope n := .inl hln
  refine wpAny_Try_except ?_
  refine wpAny_mono ((hb (wAsMany X.K i Wout D l) (X.pn ++ pins) (fun e sx => wpAny (model X.prog X.w) X.A (noteFrame e X.env) (fun _ sy => wpAny (model X.prog X.w) X.A (setFlight e none) (fun _ sz =>
    wpAny (model X.prog X.w) X.A (handleBy e X.env (h1 :: hds)) (SP X pins D) X.xe sz) X.xe sy) X.xe sx) (fun u s' xx => ?_) PassesOwn.looking).run [] s σ H D (I.toTry _) h) (fun f sx q => ?_) (fun e sx he => he)
  · obtain ⟨a, B, sI, pn2, τ, G, cls, d, rfl, J', nb, up, sky, na, os, ag, w⟩ := xx
    have J : Inv X pins τ G sI := J'.ofTry ok
    have sky2 : Sky B (X.env :: X.outer) a (Zc cls d) X.env.locals s'.heap := by rw [← st]; exact sky
    show wpAny (model X.prog X.w) X.A (noteFrame (.ref a) X.env) _ _ _
    refine Sky.land Zc.steady fr hf sky2 fun g3 fl3 up3 => ?_
    have J3 : Inv X pins τ G { s' with heap := g3 } := J.landed nb fl3.1 (up.trans up3) os ag
    obtain ⟨oe3, vs3, he3, hz3, hd3⟩ := fl3.there
    have nfr : a ∉ frs (X.env :: X.outer) := fun hm => by
      obtain ⟨_, o', e', hnf⟩ := fl3.2.2.1.mem hm
      rw [he3] at e'; cases e'
      exact hnf _ hd3
    have nL : a ≠ X.env.locals := fun z => nfr (List.mem_filterMap.mpr ⟨X.env, List.mem_cons_self, by rw [hf, z]⟩)
    have nF : a ∉ X.fs := fun hm => by
      obtain ⟨e, he, q⟩ := List.mem_filterMap.mp hm
      exact nfr (List.mem_filterMap.mpr ⟨e, List.mem_cons_of_mem _ he, q⟩)
    have S3 := J3.suite he3 hd3 na nL nF
    have go : ∀ {hs2 : List ExceptHandler} {l2 : List (Value × (Addr → Value → Option Addr → TS))}, AsOk X n hs2 l2 → wAsMany X.K i Wout D l2 cls d τ G →
        wpAny (model X.prog X.w) X.A (handleBy (.ref a) X.env hs2) (SP X pins D) X.xe { s' with heap := g3 } := by
      intro hs2 l2 hk
      induction hk with
      | nil =>
        intro w
        refine wpAny_handleBy_nil ?_
        obtain ⟨_, _, _, oe, vs, T, oT, _, he, _, hd, e1, _⟩ := id fl3
        unfold PySem.passOn
        refine wpAny_bind (wpAny_field he hd e1 ?_)
        rw [if_neg (show ¬ ((Value.ref T == Value.none) = true) from by simp)]
        have out : wpAny (model X.prog X.w) X.A (setFlight (.ref a) X.env.frame) (fun _ sq => wpAny (model X.prog X.w) X.A (throw (.ref a) : Sem Flow) (SP X pins D) X.xe sq) X.xe { s' with heap := g3 } := by
          rw [hf]
          refine HandSPX.setFlight_upZ fl3 fun g4 hg4 up4 => wpAny_throw (tk _ _ ?_)
          exact ⟨a, B, sI, pins, τ, G, cls, d, rfl, J, nb, (up.trans up3).trans up4, .inr (.inr (by rw [st]; exact hg4)), na, os, ag, w⟩
        first
          | exact wpAny_bind (wpAny_pure (wpAny_bind out))
          | exact wpAny_bind out
      | @cons x c ts b1 more np p2 hs3 l3 hc hsu r ih =>
        intro w
        obtain ⟨b, eb, yes, no⟩ := w
        refine wpAny_handleBy_cons (codeAny_handlers_test ?_) (by intro q; cases q)
        have LT : PySem.W.Looks (model X.prog X.w) g3 (typeOf (.ref a)) cls := fun A Q E s k q => wpAny_typeOf_ref (k _ _ he3) (by rw [hz3.1]; exact q)
        have LM := PySem.W.exm_one (M := model X.prog X.w) (J3.kIn) LT eb
        have test : ∀ {Q E : Value → Shared → Prop}, Q c { s' with heap := g3 } → wpAny (model X.prog X.w) (X.A.mark (some (.ref a))) (eval (.Name x np) X.env) Q E { s' with heap := g3 } := fun {Q E} q => by
          obtain ⟨hg, dbg, hm | ⟨hm, hv, hnn⟩⟩ := hc
          · exact ld_glob (X := X.suite a ((a, oe3) :: (X.pn ++ pins))) S3 hg hm q dbg
          · exact ld_blt (X := X.suite a ((a, oe3) :: (X.pn ++ pins))) S3 hg hm hv q hnn dbg
        refine test (LM.here ?_)
        cases b with
        | false => exact ih (no rfl)
        | true =>
          refine codeAny_handlers_suite_as ?_
          refine HandSPX.lands_againZ fl3 fun g4 fl4 up4 => ?_
          have J4 : Inv X pins τ G { s' with heap := g4 } := J.landed nb fl4.1 ((up.trans up3).trans up4) os ag
          obtain ⟨oe4, vs4, he4, hz4, hd4⟩ := fl4.there
          have S4 := J4.suite he4 hd4 na nL nF
          refine store_ok (X := X.suite a ((a, oe4) :: (X.pn ++ pins))) (v := .ref a) S4 hN hi hloc rfl (fun s5 S5 => ?_) (.inr hln)
          refine wpAny_mono ((hsu a oe4 cls d (X.pn ++ pins) hz4 ⟨_, hd4⟩).run [] s5 _ G _ S5 (yes rfl a na)) (fun f s6 q => ?_) (fun _ _ z => False.elim z)
          have fin : ∀ {τ6 : L2.St} {G6 : Hp} {Q : Shared → Prop}, Inv (X.suite a ((a, oe4) :: (X.pn ++ pins))) [] τ6 G6 s6 → (∀ s7, Inv X pins (τ6.set i none) G6 s7 → Q s7) →
              wpAny (model X.prog X.w) X.A (do bindName X.env n .none; unbindBehindTheSuite X.env n p2) (fun _ s7 => Q s7) X.xe s6 := fun {τ6 G6 Q} S6 hq => gone_ok (S6.unsuite ok) hN hi hln hq
          cases f with
          | next =>
            obtain ⟨τ6, G6, S6, q6⟩ := q
            exact fin S6 fun s7 J7 => ⟨_, _, J7, q6⟩
          | brk =>
            obtain ⟨τ6, G6, S6, q6⟩ := q
            exact fin S6 fun s7 J7 => ⟨_, _, J7, q6⟩
          | cont =>
            obtain ⟨τ6, G6, S6, q6⟩ := q
            exact fin S6 fun s7 J7 => ⟨_, _, J7, q6⟩
          | ret u =>
            obtain ⟨v6, τ6, G6, S6, r6, q6⟩ := q
            exact fin S6 fun s7 J7 => ⟨_, _, _, J7, r6, q6⟩
    exact go hh w
  · cases f with
    | next =>
      obtain ⟨τ, G, J', q⟩ := q
      exact wpAny_execs_nil ⟨τ, G, J'.ofTry ok, q⟩
    | brk =>
      obtain ⟨τ, G, J', q⟩ := q
      exact ⟨τ, G, J'.ofTry ok, q⟩
    | cont =>
      obtain ⟨τ, G, J', q⟩ := q
      exact ⟨τ, G, J'.ofTry ok, q⟩
    | ret u =>
      obtain ⟨v, τ, G, J', r, q⟩ := q
      exact ⟨v, τ, G, J'.ofTry ok, r, q⟩
/-- isinstance(e, c), e the caught exception, whose own dict is tracked -/
def rIsD (K : PySem.W.Frag) (a : Addr) (cls : Value) (d : Option Addr) : List V → Hp → VK → Prop := fun xs H Q => ∃ (D dd : Addr) (fs : List (Str × V)) (c : V) (cv : Value) (b : Bool), cls = .ref D ∧ d = some dd ∧ H dd = some (.xd fs) ∧ ExcC K D ∧ xs = [.ref a, c] ∧ (∀ u, RelV c u → u = cv) ∧ PySem.W.kitOne K (.ref D) cv = some b ∧ Q (.bl b) H
theorem call_isD {X : Cx} {a : Addr} {oe : Obj} {cls : Value} {d : Option Addr} {pn : List (Addr × Obj)} (hz : Zc cls d oe) (hf : ∃ vs, oe.data = .fields vs) : CallR (X.suite a ((a, oe) :: pn)) (.builtin "isinstance") (rIsD X.K a cls d) := by
  intro pins s σ H xs us Q I r h
  obtain ⟨D, dd, fs, c, cv, b, rfl, rfl, hD, C, rfl, hcv, e, q⟩ := h
  obtain ⟨vs, hv⟩ := hf
  match us, r with
  | [_, _], .cons rx (.cons rt .nil) =>
    cases rx
    cases hcv _ rt
    obtain ⟨here, _⟩ := I.pin (a, oe) (List.mem_append_left _ List.mem_cons_self)
    have hx : ObjOk X.prog X.w H s.heap dd (.xd fs) := I.hok dd _ hD
    obtain ⟨mA, hns, hr⟩ := hx
    obtain ⟨od, ho, hl⟩ := lookIn_ns hns
    have J : PySem.W.InstAt s.heap a oe D (some od) := ⟨here, hz.1, by unfold PySem.W.notCls; rw [hv] <;> rfl, by rw [hz.2]; exact ho⟩
    have hcl : (PySem.W.clsIn X.K D).isSome = true := by
      obtain ⟨cd, hc, _⟩ := PySem.W.any_some C.hd
      rw [hc] <;> rfl
    exact PySem.W.kia_one (PySem.W.kitx_exc hcl C.hg C.hk C.hs C.ha C.hn C.ht C.hm) I.kIn J e (fun z => nomatch z) fun tk => ⟨.bl b, H, I.kept (t' := tk) fun _ _ z => z, rfl, q⟩
end K18

/-! k18: the errors' makings, raised. -/
namespace K18
open PySem PySem.Spec PyProof.Rows L2 LamX K1

abbrev asg (f : Str) (q1 q2 q3 q4 : Pos) : Stmt := .Assign [.Attribute (.Name "self" q1) f q2] (.Name f q3) q4
/-- __init__ of an error: its fields as passed -/
def spE (C : Addr) (names : List Str) : Sp := fun vs H Q _ => ∃ (a : Addr) (vals : List V), vs = .ref a :: vals ∧ vals.length = names.length ∧ H a = some (exo a C none) ∧
  ∀ dx H', H dx = none → dx ≠ a → H' a = some (exo a C (some dx)) → H' dx = some (exd dx (names.zip vals).reverse) → (∀ b, b ≠ a → b ≠ dx → H' b = H b) → Q .non H'
theorem vis_of {N ps : List Str} {sc : Scope} (S : FnScope N ps sc) {x : Str} (h : x ∈ ps) : Vis sc x := (S.par x h).elim .inl fun z => .inr (.inl z)
abbrev Plain (x : Str) : Prop := (x == ("__debug__" : Str)) = false ∧ (x == ("__classdict__" : Str)) = false
section
variable {P : Program} {w : World} {K : PySem.W.Frag} {mg : Str → Option Value} {base : Heap} {f C : Addr} {fd : FuncData} {qual : Str} {params : Arguments} {body : List Stmt} {scope : Scope}
theorem init1 {f1 : Str} {q1 q2 q3 q4 : Pos} (F : FunD K "__init__" qual params body scope [] [] f fd) (S : FnScope ["self", f1] ["self", f1] scope) (hb : body = [asg f1 q1 q2 q3 q4]) (T : OexC K C)
    (d1 : Plain f1) (n1 : PySem.W.findIn K (.ref C) f1 = some none) : FnOk P w K mg base CX0 1 f fd ["self", f1] (spE C [f1]) := by
  refine F.ok S (fun vs H Q E ⟨a, vals, e, hl, _⟩ => by rw [e]; exact congrArg (· + 1) hl) (fun cdv A outer s H vs Q E hr h => ?_)
  subst hb
  obtain ⟨a, vals, rfl, hl, ha, k⟩ := h
  match vals, hl with
  | [v], _ =>
    refine ⟨_, pss_one (ps_ost (pe_var (i := 0) (x := "self") rfl (vis_of S (by simp))) (pe_var (i := 1) rfl (vis_of S (by simp)) d1.1 d1.2)), ?_⟩
    refine ⟨_, rfl, _, rfl, a, C, rfl, T, n1, .inl ⟨ha, fun dx hd hn => ?_⟩⟩
    exact k dx _ hd hn upd_same ((upd_ne hn).trans upd_same) fun b h1 h2 => (upd_ne h1).trans (upd_ne h2)
theorem init2 {f1 f2 : Str} {q1 q2 q3 q4 r1 r2 r3 r4 : Pos} (F : FunD K "__init__" qual params body scope [] [] f fd) (S : FnScope ["self", f1, f2] ["self", f1, f2] scope) (hb : body = [asg f1 q1 q2 q3 q4, asg f2 r1 r2 r3 r4]) (T : OexC K C)
    (d1 : Plain f1) (d2 : Plain f2) (n1 : PySem.W.findIn K (.ref C) f1 = some none) (n2 : PySem.W.findIn K (.ref C) f2 = some none) : FnOk P w K mg base CX0 1 f fd ["self", f1, f2] (spE C [f1, f2]) := by
  refine F.ok S (fun vs H Q E ⟨a, vals, e, hl, _⟩ => by rw [e]; exact congrArg (· + 1) hl) (fun cdv A outer s H vs Q E hr h => ?_)
  subst hb
  obtain ⟨a, vals, rfl, hl, ha, k⟩ := h
  match vals, hl with
  | [v, u], _ =>
    refine ⟨_, pss_cons (ps_ost (pe_var (i := 0) (x := "self") rfl (vis_of S (by simp))) (pe_var (i := 1) rfl (vis_of S (by simp)) d1.1 d1.2))
      (pss_one (ps_ost (pe_var (i := 0) (x := "self") rfl (vis_of S (by simp))) (pe_var (i := 2) rfl (vis_of S (by simp)) d2.1 d2.2))), ?_⟩
    refine ⟨_, rfl, _, rfl, a, C, rfl, T, n1, .inl ⟨ha, fun dx hd hn => ?_⟩⟩
    have e1 : upd (upd H dx (exd dx [(f1, v)])) a (exo a C (some dx)) dx = some (exd dx [(f1, v)]) := (upd_ne hn).trans upd_same
    refine ⟨_, rfl, _, rfl, a, C, rfl, T, n2, .inr ⟨dx, _, upd_same, e1, by simp, ?_⟩⟩
    exact k dx _ hd hn ((upd_ne (Ne.symm hn)).trans upd_same) upd_same fun b h1 h2 => (upd_ne h2).trans ((upd_ne h1).trans (upd_ne h2))
end
/-- behind a raise: what stood stands, the error's dict holds its fields -/
structure ToldF (H H' : Hp) (d : Addr) (fs : List (Str × V)) : Prop where
  same : Same H H'
  new : H d = none
  at_ : H' d = some (.xd fs)
structure ErrR (P : Program) (w : World) (K : PySem.W.Frag) (mg : Str → Option Value) (base : Heap) (C : Addr) (x : Str) (names : List Str) : Prop where
  g : mg x = some (.ref C)
  o : OexC K C
  i : ∃ fI fd, PySem.W.findIn K (.ref C) "__init__" = some (some (.ref fI)) ∧ PySem.W.typeIn K (.ref fI) = some (.type "function") ∧ Binds K fd ("self" :: names) [] ∧ FnOk P w K mg base CX0 1 fI fd ("self" :: names) (spE C names)
def rsK (C : Addr) (names : List Str) (W : WX) (σ : L2.St) (vs : List V) (H1 : Hp) : Prop := vs.length ≤ 1000 ∧ ∀ a, H1 a = none → spE C names (.ref a :: (vs ++ [])) (upd H1 a (exo a C none))
  (fun v H2 => v = .non ∧ ∃ (d : Addr) (fs : List (Str × V)), H2 a = some (exo a C (some d)) ∧ H2 d = some (exd d fs) ∧ H1 d = none ∧ W (.ref C) (some d) σ (upd (del H2 a) d (.xd fs))) (fun _ _ _ => False)
theorem rs_of {C : Addr} {names : List Str} {W : WX} {σ : L2.St} {vs : List V} {H1 : Hp} (hl : vs.length = names.length) (few : vs.length ≤ 1000) (k : ∀ (d : Addr) (H' : Hp), ToldF H1 H' d (names.zip vs).reverse → W (.ref C) (some d) σ H') : rsK C names W σ vs H1 := by
  refine ⟨few, fun a na => ⟨a, vs ++ [], rfl, by rw [List.append_nil]; exact hl, upd_same, fun dx H' nd ne e1 e2 keep => ⟨rfl, dx, _, e1, e2, ?_, ?_⟩⟩⟩
  · rw [upd_ne ne] at nd
    exact nd
  · rw [upd_ne ne] at nd
    rw [List.append_nil] at e2 ⊢
    refine k dx _ ⟨fun b o e => ?_, nd, upd_same⟩
    have h1 := ne_of_none e na
    have h2 := ne_of_none e nd
    rw [upd_ne h2, del_ne h1, keep b h1 h2, upd_ne h1]
    exact e
def tRs (C : Addr) (names : List Str) (ta : TA) (W : WX) : TS := fun _ σ H => ta σ H (rsK C names W σ)
theorem ps_rs {X : Cx} {C : Addr} {x : Str} {names : List Str} {W : WX} {e : Expr} {es : List Expr} {ta : TA} {p pos pos2 : Pos} (B : ErrR X.prog X.w X.K X.mg X.base C x names) (hc : X.calm = true) (tk : Takes X W) (hr : Room 2 X.A) (ha : PA X (e :: es) ta) (hg : Gl X x := by rfl)
    (hdb : (x == ("__debug__" : Str)) = false := by decide) (he : starEach (e :: es) X.env = (false, eval e X.env) :: starEach es X.env := by rfl) (hpl : (backTo pos (starEach es X.env)).any (·.1) = false := by rfl) :
    PS X (.Raise (some (.Call (.Name x p) (e :: es) [] pos)) none pos2) (tRs C names ta W) := by
  obtain ⟨fI, fd, i1, i2, b1, F1⟩ := B.i
  exact ps_raise (pos := pos2) hc tk (pmk_oex (p := p) (pos := pos) B.o i1 i2 F1 hr b1 .nil pass0 hg B.g ha hdb he hpl)
/-- raise x(name), raise x('text') -/
theorem rs_v {C : Addr} {f : Str} {W : WX} {i : Nat} {v : V} {D : Ends} {σ : L2.St} {H : Hp} (hσ : σ[i]? = some (some v)) (k : ∀ (d : Addr) (H' : Hp), ToldF H H' d [(f, v)] → W (.ref C) (some d) σ H') : tRs C [f] (tCons (tVar i) tNil) W D σ H :=
  ⟨v, hσ, rs_of rfl (by show 1 ≤ 1000; decide) k⟩
theorem rs_c {C : Addr} {f : Str} {W : WX} {v : V} {D : Ends} {σ : L2.St} {H : Hp} (k : ∀ (d : Addr) (H' : Hp), ToldF H H' d [(f, v)] → W (.ref C) (some d) σ H') : tRs C [f] (tCons (tC v) tNil) W D σ H :=
  rs_of (vs := [v]) rfl (by show 1 ≤ 1000; decide) k
end K18

/-! k18: what is walked as a list or as a tuple. -/
namespace K18
open PySem PySem.Spec PyProof.Rows L2 LamX K1

/-- a list or a tuple of xs, tracked -/
def SqA (H : Hp) (a : Addr) (xs : List V) : Prop := H a = some (.lst xs) ∨ H a = some (.tup xs)
theorem SqA.same {H H' : Hp} {a : Addr} {xs : List V} (s : Same H H') (h : SqA H a xs) : SqA H' a xs := h.imp (s _ _) (s _ _)
theorem SqA.there {H : Hp} {a : Addr} {xs : List V} (h : SqA H a xs) : ∃ o, H a = some o := h.elim (fun z => ⟨_, z⟩) fun z => ⟨_, z⟩
theorem SqA.ne {H : Hp} {a b : Addr} {xs : List V} (h : SqA H a xs) (n : H b = none) : a ≠ b := let ⟨_, e⟩ := h.there; ne_of_none e n
theorem SqA.at_ {H H' : Hp} {a : Addr} {xs : List V} (e : H' a = H a) (h : SqA H a xs) : SqA H' a xs := by unfold SqA at *; rw [e]; exact h
def iSeq (K : PySem.W.Frag) (tl : TE) : TI := fun σ H R => tl σ H fun x H1 => ∃ a, x = .ref a ∧ (((∃ xs, SqL K H1 a xs) ∧ R (Itl K a) H1) ∨ ((∃ xs, SqT K H1 a xs) ∧ R (Itt K a) H1))
theorem pi_seq {X : Cx} {tg l : Expr} {tl : TE} (hl : PE X l tl) : PI X tg l (iSeq X.K tl) := by
  refine ⟨fun pins s σ H R I h => thn (hl.run pins s σ H _ I h) fun v sa ⟨x, Ha, Ia, ra, a, e, q⟩ => ?_⟩
  subst e
  cases ra
  have out : ∀ b ∈ [sa.heap.objs.size], FpOk X pins Ha b := fun b hb => by
    cases List.mem_singleton.mp hb
    exact Ia.fpOk (Nat.le_refl _) (Ia.hok.fresh (Nat.le_refl _))
  rcases q with ⟨⟨xs, hq⟩, q⟩ | ⟨⟨xs, hq⟩, q⟩
  · obtain ⟨its, _, p, _⟩ := Ia.list hq
    exact wpAny_pyIter_list p.isList ⟨sa.heap.objs.size, [sa.heap.objs.size], _, _, Ha, rfl, Ia.kept (t' := sa.toks) fun b o e => Heap.get?_push_of_some _ e, turn_list a _, ⟨_, Heap.get?_push_size _ rfl, rfl, rfl⟩, out, q⟩
  · obtain ⟨its, _, p, _⟩ := Ia.tuple hq
    exact wpAny_pyIter_tuple (show sa.heap.IsTuple a its.toArray from p) ⟨sa.heap.objs.size, [sa.heap.objs.size], _, _, Ha, rfl, Ia.kept (t' := sa.toks) fun b o e => Heap.get?_push_of_some _ e, turn_tuple a _, ⟨_, Heap.get?_push_size _ rfl, rfl, rfl⟩, out, q⟩
section
variable {K : PySem.W.Frag} {a : Addr} {xs : List V} {g : TG}
theorem for_seqA {tb : TS} {D : Ends} {σ : L2.St} {H : Hp} (hq : SqA H a xs) (Pv : Nat → L2.St → Hp → Prop) (h0 : Pv 0 σ H) (hl : ∀ i σ' H', i ≤ xs.length → Pv i σ' H' → H' a = H a)
    (hs : ∀ i x σ H, xs[i]? = some x → Pv i σ H → g x σ H fun σ2 H2 => tb { D with nx := Pv (i + 1), ct := Pv (i + 1), bk := D.nx } σ2 H2) (hd : ∀ σ H, Pv xs.length σ H → D.nx σ H) :
    ((∃ xs, SqL K H a xs) ∧ ∃ W : Nat → Nat → L2.St → Hp → Prop, (∃ m, W 0 m σ H) ∧ ∀ i m σ H, W i m σ H →
      ((Itl K a).stop i H ∧ D.nx σ H) ∨ ((Itl K a).go i H ∧ ∃ N : L2.St → Hp → Prop, (∀ σ' H', N σ' H' → ∃ m', m' < m ∧ W (i + 1) m' σ' H') ∧ ∀ x H', (Itl K a).yld i H x H' → g x σ H' fun σ2 H2 => tb { D with nx := N, ct := N, bk := D.nx } σ2 H2)) ∨
    ((∃ xs, SqT K H a xs) ∧ ∃ W : Nat → Nat → L2.St → Hp → Prop, (∃ m, W 0 m σ H) ∧ ∀ i m σ H, W i m σ H →
      ((Itt K a).stop i H ∧ D.nx σ H) ∨ ((Itt K a).go i H ∧ ∃ N : L2.St → Hp → Prop, (∀ σ' H', N σ' H' → ∃ m', m' < m ∧ W (i + 1) m' σ' H') ∧ ∀ x H', (Itt K a).yld i H x H' → g x σ H' fun σ2 H2 => tb { D with nx := N, ct := N, bk := D.nx } σ2 H2)) := by
  rcases hq with h | h
  · exact .inl ⟨⟨_, SqL.of h⟩, for_list Pv h0 (fun i σ' H' l p => SqL.of ((hl i σ' H' l p).trans h)) hs hd⟩
  · exact .inr ⟨⟨_, SqT.of h⟩, for_tup Pv h0 (fun i σ' H' l p => SqT.of ((hl i σ' H' l p).trans h)) hs hd⟩
theorem lc_seqA {tt : TT} {te : TE} {vs : List Nat} {σ : L2.St} {H1 : Hp} {Q : Addr → Hp → Prop} (hq : SqA H1 a xs)
    (k : ∀ D, H1 D = none → ∃ Pv : Nat → Hp → Prop, Pv 0 (upd H1 D (.lst [])) ∧ (∀ i H', i ≤ xs.length → Pv i H' → H' a = H1 a) ∧
      (∀ i x H, xs[i]? = some x → Pv i H → g x (wipe σ vs) H fun σ2 H2 => wipe σ2 vs = wipe σ vs ∧ tt σ2 H2 fun b H3 =>
        if b = true then te σ2 H3 fun y H4 => ∃ acc, H4 D = some (.lst acc) ∧ acc.length < sizeLine ∧ Pv (i + 1) (upd H4 D (.lst (acc ++ [y]))) else Pv (i + 1) H3) ∧ ∀ H, Pv xs.length H → Q D H) :
    ((∃ xs, SqL K H1 a xs) ∧ ∀ D, H1 D = none → ∃ W : Nat → Nat → Hp → Prop, (∃ m, W 0 m (upd H1 D (.lst []))) ∧ ∀ i m H, W i m H →
      ((Itl K a).stop i H ∧ Q D H) ∨ ((Itl K a).go i H ∧ ∃ Nx : Hp → Prop, (∀ H', Nx H' → ∃ m', m' < m ∧ W (i + 1) m' H') ∧ ∀ x H', (Itl K a).yld i H x H' → g x (wipe σ vs) H' fun σ2 H2 => wipe σ2 vs = wipe σ vs ∧ tt σ2 H2 fun b H3 =>
        if b = true then te σ2 H3 fun y H4 => ∃ acc, H4 D = some (.lst acc) ∧ acc.length < sizeLine ∧ Nx (upd H4 D (.lst (acc ++ [y]))) else Nx H3)) ∨
    ((∃ xs, SqT K H1 a xs) ∧ ∀ D, H1 D = none → ∃ W : Nat → Nat → Hp → Prop, (∃ m, W 0 m (upd H1 D (.lst []))) ∧ ∀ i m H, W i m H →
      ((Itt K a).stop i H ∧ Q D H) ∨ ((Itt K a).go i H ∧ ∃ Nx : Hp → Prop, (∀ H', Nx H' → ∃ m', m' < m ∧ W (i + 1) m' H') ∧ ∀ x H', (Itt K a).yld i H x H' → g x (wipe σ vs) H' fun σ2 H2 => wipe σ2 vs = wipe σ vs ∧ tt σ2 H2 fun b H3 =>
        if b = true then te σ2 H3 fun y H4 => ∃ acc, H4 D = some (.lst acc) ∧ acc.length < sizeLine ∧ Nx (upd H4 D (.lst (acc ++ [y]))) else Nx H3)) := by
  rcases hq with h | h
  · refine .inl ⟨⟨_, SqL.of h⟩, fun D hD => ?_⟩
    obtain ⟨Pv, h0, hl, hs, hd⟩ := k D hD
    exact lc_list Pv h0 (fun i H' l p => SqL.of ((hl i H' l p).trans h)) hs hd
  · refine .inr ⟨⟨_, SqT.of h⟩, fun D hD => ?_⟩
    obtain ⟨Pv, h0, hl, hs, hd⟩ := k D hD
    exact lc_tup Pv h0 (fun i H' l p => SqT.of ((hl i H' l p).trans h)) hs hd
/-- the turns of a set's comprehension over a list or a tuple -/
theorem sc_seqA {r : V → List V → Hp → VK → Prop} {z : Addr → HO} {tt : TT} {te : TE} {vs : List Nat} {σ : L2.St} {H1 : Hp} {Q : Addr → Hp → Prop} (hq : SqA H1 a xs)
    (k : ∀ D, H1 D = none → ∃ Pv : Nat → Hp → Prop, Pv 0 (upd H1 D (z D)) ∧ (∀ i H', i ≤ xs.length → Pv i H' → H' a = H1 a) ∧
      (∀ i x H, xs[i]? = some x → Pv i H → g x (wipe σ vs) H fun σ2 H2 => wipe σ2 vs = wipe σ vs ∧ tt σ2 H2 fun b H3 =>
        if b = true then te σ2 H3 fun y H4 => r (.ref D) [y] H4 fun _ H5 => Pv (i + 1) H5 else Pv (i + 1) H3) ∧ ∀ H, Pv xs.length H → Q D H) :
    ((∃ xs, SqL K H1 a xs) ∧ ∀ D, H1 D = none → ∃ W : Nat → Nat → Hp → Prop, (∃ m, W 0 m (upd H1 D (z D))) ∧ ∀ i m H, W i m H →
      ((Itl K a).stop i H ∧ Q D H) ∨ ((Itl K a).go i H ∧ ∃ Nx : Hp → Prop, (∀ H', Nx H' → ∃ m', m' < m ∧ W (i + 1) m' H') ∧ ∀ x H', (Itl K a).yld i H x H' → g x (wipe σ vs) H' fun σ2 H2 => wipe σ2 vs = wipe σ vs ∧ tt σ2 H2 fun b H3 =>
        if b = true then te σ2 H3 fun y H4 => r (.ref D) [y] H4 fun _ H5 => Nx H5 else Nx H3)) ∨
    ((∃ xs, SqT K H1 a xs) ∧ ∀ D, H1 D = none → ∃ W : Nat → Nat → Hp → Prop, (∃ m, W 0 m (upd H1 D (z D))) ∧ ∀ i m H, W i m H →
      ((Itt K a).stop i H ∧ Q D H) ∨ ((Itt K a).go i H ∧ ∃ Nx : Hp → Prop, (∀ H', Nx H' → ∃ m', m' < m ∧ W (i + 1) m' H') ∧ ∀ x H', (Itt K a).yld i H x H' → g x (wipe σ vs) H' fun σ2 H2 => wipe σ2 vs = wipe σ vs ∧ tt σ2 H2 fun b H3 =>
        if b = true then te σ2 H3 fun y H4 => r (.ref D) [y] H4 fun _ H5 => Nx H5 else Nx H3)) := by
  rcases hq with h | h
  · refine .inl ⟨⟨_, SqL.of h⟩, fun D hD => ?_⟩
    obtain ⟨Pv, h0, hl, hs, hd⟩ := k D hD
    refine ⟨fun i m H => m = xs.length - i ∧ i ≤ xs.length ∧ Pv i H, ⟨_, rfl, Nat.zero_le _, h0⟩, ?_⟩
    rintro i m H ⟨rfl, hi, p⟩
    have q : SqL K H a xs := SqL.of ((hl i H hi p).trans h)
    by_cases lt : i < xs.length
    · refine .inr ⟨⟨xs, xs[i], q, by simp [lt]⟩, Pv (i + 1), fun H' p' => ⟨_, by omega, rfl, lt, p'⟩, fun x H' y => ?_⟩
      obtain ⟨rfl, y⟩ := y
      exact hs i x _ (y xs q) p
    · have e : i = xs.length := by omega
      subst e
      exact .inl ⟨⟨xs, q, Nat.le_refl _⟩, hd H p⟩
  · refine .inr ⟨⟨_, SqT.of h⟩, fun D hD => ?_⟩
    obtain ⟨Pv, h0, hl, hs, hd⟩ := k D hD
    refine ⟨fun i m H => m = xs.length - i ∧ i ≤ xs.length ∧ Pv i H, ⟨_, rfl, Nat.zero_le _, h0⟩, ?_⟩
    rintro i m H ⟨rfl, hi, p⟩
    have q : SqT K H a xs := SqT.of ((hl i H hi p).trans h)
    by_cases lt : i < xs.length
    · refine .inr ⟨⟨xs, xs[i], q, by simp [lt]⟩, Pv (i + 1), fun H' p' => ⟨_, by omega, rfl, lt, p'⟩, fun x H' y => ?_⟩
      obtain ⟨rfl, y⟩ := y
      exact hs i x _ (y xs q) p
    · have e : i = xs.length := by omega
      subst e
      exact .inl ⟨⟨xs, q, Nat.le_refl _⟩, hd H p⟩
end
/-! two rules at one place -/
theorem pg_both {X : Cx} {e : Expr} {g1 g2 : TG} (h1 : PG X e g1) (h2 : PG X e g2) : PG X e (fun v σ H Q => g1 v σ H Q ∨ g2 v σ H Q) :=
  ⟨fun pins s σ H v u Q I r h => h.elim (h1.run pins s σ H v u Q I r) (h2.run pins s σ H v u Q I r)⟩
theorem pe_both {X : Cx} {e : Expr} {t1 t2 : TE} (h1 : PE X e t1) (h2 : PE X e t2) : PE X e (fun σ H Q => t1 σ H Q ∨ t2 σ H Q) :=
  ⟨fun pins s σ H Q I h => h.elim (h1.run pins s σ H Q I) (h2.run pins s σ H Q I)⟩
theorem cr_both {X : Cx} {v : Value} {r1 r2 : List V → Hp → VK → Prop} (h1 : CallR X v r1) (h2 : CallR X v r2) : CallR X v (fun xs H Q => r1 xs H Q ∨ r2 xs H Q) :=
  fun pins s σ H xs us Q I r h => h.elim (h1 pins s σ H xs us Q I r) (h2 pins s σ H xs us Q I r)
theorem op_both {X : Cx} {f : Value → Value → Sem Value} {r1 r2 : R2} (h1 : OpR X f r1) (h2 : OpR X f r2) : OpR X f (fun x y H Q => r1 x y H Q ∨ r2 x y H Q) :=
  fun pins s σ H x y v u Q I rx ry h => h.elim (h1 pins s σ H x y v u Q I rx ry) (h2 pins s σ H x y v u Q I rx ry)
/-- a, b = a pair, list or tuple -/
def gPair (K : PySem.W.Frag) (t : TGs) : TG := fun v σ H Q => gTup K 2 t v σ H Q ∨ gLst K 2 t v σ H Q
theorem pg_pair {X : Cx} {es : List Expr} {k : Nat} {t : TGs} {pos : Pos} (hc : X.calm = true) (h : PGs X es t) (hn : (assignEach es X.env).length = 2 := by rfl) (hst : (assignEach es X.env).findIdx? (·.1) = none := by rfl) : PG X (.Tuple es k pos) (gPair X.K t) :=
  pg_both (pg_tup hc h hn hst) (pg_lst hc h hn hst)
theorem gPair.of {K : PySem.W.Frag} {t : TGs} {a : Addr} {xs : List V} {σ : L2.St} {H : Hp} {Q : L2.St → Hp → Prop} (h : SqA H a xs) (l : xs.length = 2) (q : t xs σ H Q) : gPair K t (.ref a) σ H Q :=
  h.elim (fun h => .inr ⟨a, xs, rfl, SqL.of h, l, q⟩) fun h => .inl ⟨a, xs, rfl, SqT.of h, l, q⟩
end K18

/-! k18: is_integer, is_within, is_listed, are_integers, check_none_twice, check_hand. -/
namespace K18
open PySem PySem.Spec PyProof.Rows L2 LamX K1

theorem TyOf.keep {K : PySem.W.Frag} {H H' : Hp} {v : V} {t : Value} (s : Same H H') (h : TyOf K H v t) : TyOf K H' v t := by
  cases h with
  | non => exact .non
  | bl x => exact .bl x
  | int i => exact .int i
  | str x => exact .str x
  | flt x => exact .flt x
  | lst e => exact .lst (s _ _ e)
  | frz e => exact .frz (s _ _ e)
  | tup e => exact .tup (s _ _ e)
  | dK e => exact .dK (s _ _ e)
  | dT e => exact .dT (s _ _ e)
  | ins e a b c d f => exact .ins (s _ _ e) a b c d f
/-- is_integer says no of it -/
def NotInt (K : PySem.W.Frag) (H : Hp) (v : V) : Prop := ∃ (t : Value) (c : Bool), TyOf K H v t ∧ PySem.W.kitOne K t (.type "int") = some c ∧ (c = true → PySem.W.kitOne K t (.type "bool") = some true)
theorem NotInt.same {K : PySem.W.Frag} {H H' : Hp} {v : V} (s : Same H H') (h : NotInt K H v) : NotInt K H' v := let ⟨t, c, a, b⟩ := h; ⟨t, c, TyOf.keep s a, b⟩
theorem NotInt.of {K : PySem.W.Frag} {H : Hp} {v : V} {T : String} (ty : TyOf K H v (.type T)) (m : T ∈ ["NoneType", "str", "list", "tuple", "dict"]) : NotInt K H v := by
  refine ⟨_, false, ty, ?_, fun z => nomatch z⟩
  simp only [List.mem_cons, List.not_mem_nil, or_false] at m
  rcases m with rfl | rfl | rfl | rfl | rfl <;> exact kit_ty (by decide +kernel)
theorem NotInt.bl {K : PySem.W.Frag} {H : Hp} (b : Bool) : NotInt K H (.bl b) := ⟨_, true, .bl b, kit_ty (by decide +kernel), fun _ => kit_ty (by decide +kernel)⟩
theorem int1 {K : PySem.W.Frag} : PySem.W.kitOne K (.type "int") (.type "int") = some true := kit_ty (a := "int") (b := "int") (r := true) (by decide +kernel)
theorem int2 {K : PySem.W.Frag} : (true = true) → PySem.W.kitOne K (.type "int") (.type "bool") = some false := fun _ => kit_ty (a := "int") (b := "bool") (r := false) (by decide +kernel)
/-- no list, no tuple -/
def NotSeq (K : PySem.W.Frag) (H : Hp) (v : V) : Prop := ∃ t, TyOf K H v t ∧ PySem.W.kitAny K t [.type "list", .type "tuple"] = some false
theorem NotSeq.same {K : PySem.W.Frag} {H H' : Hp} {v : V} (s : Same H H') (h : NotSeq K H v) : NotSeq K H' v := let ⟨t, a, b⟩ := h; ⟨t, TyOf.keep s a, b⟩
theorem NotSeq.of {K : PySem.W.Frag} {H : Hp} {v : V} {T : String} (ty : TyOf K H v (.type T)) (m : T ∈ ["NoneType", "str", "int", "bool", "dict"]) : NotSeq K H v := by
  refine ⟨_, ty, ?_⟩
  simp only [List.mem_cons, List.not_mem_nil, or_false] at m
  rcases m with rfl | rfl | rfl | rfl | rfl <;> exact kitAny_cons (kit_ty (b := "list") (r := false) (by decide +kernel)) (fun _ => kitAny_cons (kit_ty (b := "tuple") (r := false) (by decide +kernel)) (fun _ => rfl) fun z => nomatch z) fun z => nomatch z
theorem is_list {K : PySem.W.Frag} : PySem.W.kitAny K (.type "list") [.type "list", .type "tuple"] = some true := kitAny_cons (kit_ty (b := "list") (r := true) (by decide +kernel)) (fun z => nomatch z) fun _ => rfl
theorem is_tup {K : PySem.W.Frag} : PySem.W.kitAny K (.type "tuple") [.type "list", .type "tuple"] = some true := kitAny_cons (kit_ty (b := "list") (r := false) (by decide +kernel)) (fun _ => kitAny_cons (kit_ty (b := "tuple") (r := true) (by decide +kernel)) (fun z => nomatch z) fun _ => rfl) fun z => nomatch z

def spIsInt (K : PySem.W.Frag) : Sp := fun vs H Q _ => ∃ v, vs = [v] ∧ ((NotInt K H v ∧ Q (.bl false) H) ∨ ∃ n, v = .int n ∧ Q (.bl true) H)
def spWithin (K : PySem.W.Frag) : Sp := fun vs H Q _ => ∃ (v : V) (lo hi : Int), vs = [v, .int lo, .int hi] ∧ ((NotInt K H v ∧ Q (.bl false) H) ∨ ∃ n, v = .int n ∧ Q (.bl (decide (lo ≤ n) && decide (n ≤ hi))) H)
def spListed (K : PySem.W.Frag) : Sp := fun vs H Q _ => ∃ v, vs = [v] ∧ ((NotSeq K H v ∧ ∀ H', Same H H' → Q (.bl false) H') ∨ ∃ a xs, v = .ref a ∧ SqA H a xs ∧ ∀ H', Same H H' → Q (.bl true) H')
/-- each item an int (true), or none -/
def IBs (K : PySem.W.Frag) (H : Hp) (xs : List V) (bs : List Bool) : Prop := xs.length = bs.length ∧ ∀ (i : Nat) (x : V), xs[i]? = some x → ∃ b, bs[i]? = some b ∧ ((b = true ∧ ∃ n, x = .int n) ∨ (b = false ∧ NotInt K H x))
theorem IBs.same {K : PySem.W.Frag} {H H' : Hp} {xs : List V} {bs : List Bool} (s : Same H H') (h : IBs K H xs bs) : IBs K H' xs bs :=
  ⟨h.1, fun i x e => let ⟨b, e1, z⟩ := h.2 i x e; ⟨b, e1, z.imp id fun z => ⟨z.1, z.2.same s⟩⟩⟩
theorem IBs.ints {K : PySem.W.Frag} {H : Hp} (ns : List Int) : IBs K H (ns.map V.int) (List.replicate ns.length true) := by
  refine ⟨by simp, fun i x e => ?_⟩
  rw [List.getElem?_map] at e
  have hi : i < ns.length := by
    cases q : ns[i]? with
    | none => rw [q] at e; cases e
    | some n => exact (List.getElem?_eq_some_iff.mp q).1
  refine ⟨true, by rw [List.getElem?_replicate, if_pos hi], .inl ⟨rfl, ?_⟩⟩
  cases q : ns[i]? with
  | none => rw [q] at e; cases e
  | some n => rw [q] at e; cases e; exact ⟨n, rfl⟩
def spAreInts (K : PySem.W.Frag) : Sp := fun vs H Q _ => ∃ v, vs = [v] ∧ ((NotSeq K H v ∧ ∀ H', Same H H' → Q (.bl false) H') ∨ ∃ a xs bs, v = .ref a ∧ SqA H a xs ∧ xs.length ≤ 1000 ∧ IBs K H xs bs ∧ ∀ H', Same H H' → Q (.bl (bs.all id)) H')
theorem take_bl {bs : List Bool} {i : Nat} {b : Bool} (h : bs[i]? = some b) : (bs.take i).map V.bl ++ [V.bl b] = (bs.take (i + 1)).map V.bl := by
  obtain ⟨hi, e⟩ := List.getElem?_eq_some_iff.mp h
  rw [List.take_succ_eq_append_getElem hi, List.map_append, e]
  rfl
theorem call1 {sp : Sp} {E : XK} {i : Nat} {σ : L2.St} {H : Hp} {Q : VK} {v : V} (hv : σ[i]? = some (some v)) (h : sp [v] H Q E) : tCall sp [] E (tCons (tVar i) tNil) σ H Q := ⟨v, hv, h⟩
section
variable {P : Program} {w : World} {K : PySem.W.Frag} {mg : Str → Option Value} {base : Heap} {f C : Addr} {fd : FuncData}
abbrev HasInt (P : Program) (w : World) (K : PySem.W.Frag) (mg : Str → Option Value) (base : Heap) : Prop := Has P w K mg base CX0 1 "is_integer" ["value"] (spIsInt K)
abbrev HasListed (P : Program) (w : World) (K : PySem.W.Frag) (mg : Str → Option Value) (base : Heap) : Prop := Has P w K mg base CX0 1 "is_listed" ["value"] (spListed K)
abbrev HasWithin (P : Program) (w : World) (K : PySem.W.Frag) (mg : Str → Option Value) (base : Heap) : Prop := Has P w K mg base CX0 2 "is_within" ["value", "least", "most"] (spWithin K)
abbrev HasAreInts (P : Program) (w : World) (K : PySem.W.Frag) (mg : Str → Option Value) (base : Heap) : Prop := Has P w K mg base CX0 2 "are_integers" ["value"] (spAreInts K)
theorem scIsInt : FnScope ["value"] ["value"] (defScope sIsInt) := ⟨rfl, rfl, rfl, by decide +kernel, rfl, by decide +kernel, by decide +kernel⟩
theorem ok_isInt (G : Glob mg) (F : DefAt K "is_integer" "is_integer" sIsInt f fd) : FnOk P w K mg base CX0 1 f fd ["value"] (spIsInt K) := by
  refine okN F scIsInt (fun vs H Q E ⟨v, e, _⟩ => by rw [e]; rfl) (fun cdv A outer s H vs Q E hr ⟨v, e, h⟩ => ?_)
  subst e
  refine ⟨_, pss_one (ps_ret (pe_and (pe_callB call_isi (by rfl) G.isi (by decide +kernel) (pa_cons (pv 0) (pa_cons (pe_bltn (by rfl) G.int (by decide +kernel) (v := .ty "int") rfl) pa_nil)))
      (pe_one (pe_not (pe_callB call_isi (by rfl) G.isi (by decide +kernel) (pa_cons (pv 0) (pa_cons (pe_bltn (by rfl) G.bool (by decide +kernel) (v := .ty "bool") rfl) pa_nil))))))), ?_⟩
  rcases h with ⟨⟨t, c, ty, k1, k2⟩, q⟩ | ⟨n, rfl, q⟩
  · refine ⟨_, rfl, _, _, _, _, _, rfl, .ty "int", .base ty, k1, c, rfl, ?_⟩
    cases c with
    | false => exact iteF q
    | true => exact iteT ⟨_, rfl, _, _, _, _, _, rfl, .ty "bool", .base ty, k2 rfl, true, rfl, q⟩
  · exact ⟨_, rfl, _, _, _, _, _, rfl, .ty "int", .base (.int n), int1, true, rfl, iteT ⟨_, rfl, _, _, _, _, _, rfl, .ty "bool", .base (.int n), int2 rfl, false, rfl, q⟩⟩
theorem scListed : FnScope ["value"] ["value"] (defScope sListed) := ⟨rfl, rfl, rfl, by decide +kernel, rfl, by decide +kernel, by decide +kernel⟩
theorem ok_listed (G : Glob mg) (F : DefAt K "is_listed" "is_listed" sListed f fd) : FnOk P w K mg base CX0 1 f fd ["value"] (spListed K) := by
  refine okN F scListed (fun vs H Q E ⟨v, e, _⟩ => by rw [e]; rfl) (fun cdv A outer s H vs Q E hr ⟨v, e, h⟩ => ?_)
  subst e
  refine ⟨_, pss_one (ps_ret (pe_callB call_isiT (by rfl) G.isi (by decide +kernel) (pa_cons (pv 0) (pa_cons (pe_tup (pa_cons (pe_bltn (by rfl) G.lst (by decide +kernel) (v := .ty "list") rfl) (pa_cons (pe_bltn (by rfl) G.tup (by decide +kernel) (v := .ty "tuple") rfl) pa_nil))) pa_nil)))), ?_⟩
  refine ⟨_, rfl, (by show 2 ≤ sizeLine; decide), fun p np => ?_⟩
  have s1 : Same H (upd H p (.tup [.ty "list", .ty "tuple"])) := upd_new np
  obtain ⟨t, b, ty, k, q⟩ : ∃ (t : Value) (b : Bool), TyOf K H v t ∧ PySem.W.kitAny K t [.type "list", .type "tuple"] = some b ∧ ∀ H', Same H H' → Q (.bl b) H' := by
    rcases h with ⟨⟨t, ty, k⟩, q⟩ | ⟨a, xs, rfl, h | h, q⟩
    · exact ⟨t, false, ty, k, q⟩
    · exact ⟨_, true, .lst h, is_list, q⟩
    · exact ⟨_, true, .tup h, is_tup, q⟩
  exact ⟨_, p, _, t, [.type "list", .type "tuple"], b, rfl, upd_same, .cons (.ty _) (.cons (.ty _) .nil), .base (TyOf.keep s1 ty), k, q _ s1⟩
theorem scWithin : FnScope ["value", "least", "most"] ["value", "least", "most"] (defScope sWithin) := ⟨rfl, rfl, rfl, by decide +kernel, rfl, by decide +kernel, by decide +kernel⟩
theorem ok_within (HI : HasInt P w K mg base) (F : DefAt K "is_within" "is_within" sWithin f fd) : FnOk P w K mg base CX0 2 f fd ["value", "least", "most"] (spWithin K) := by
  obtain ⟨fi, fdi, mI, kI, bI, GI⟩ := HI.h
  refine okN F scWithin (fun vs H Q E ⟨v, lo, hi, e, _⟩ => by rw [e]; rfl) (fun cdv A outer s H vs Q E hr ⟨v, lo, hi, e, h⟩ => ?_)
  subst e
  refine ⟨_, pss_cons (ps_if (pt_not (pt_val (pe_call GI hr rfl mI kI bI .nil pass0 (pa_cons (pv 0) pa_nil)))) (pss_one (ps_ret pe_bl)) pss_nil)
    (pss_one (ps_ret (pe_and (pe_or (pe_cmpR op_isN (pv 1) pe_non (nomark _)) (pe_one (pe_cmpR op_le (pv 1) (pv 0) (nomark _))))
      (pe_one (pe_or (pe_cmpR op_isN (pv 2) pe_non (nomark _)) (pe_one (pe_cmpR op_le (pv 0) (pv 2) (nomark _)))))))), ?_⟩
  rcases h with ⟨ni, q⟩ | ⟨n, rfl, q⟩
  · exact ⟨_, rfl, v, rfl, .inl ⟨ni, false, rfl, iteT q⟩⟩
  · refine ⟨_, rfl, _, rfl, .inr ⟨n, rfl, true, rfl, iteF ?_⟩⟩
    refine ⟨_, rfl, rfl, false, rfl, iteF ⟨_, rfl, _, rfl, _, _, rfl, rfl, _, rfl, ?_⟩⟩
    by_cases hl : lo ≤ n
    · rw [decide_eq_true hl, Bool.true_and] at q
      rw [decide_eq_true hl]
      exact iteT ⟨_, rfl, rfl, false, rfl, iteF ⟨_, rfl, _, rfl, _, _, rfl, rfl, q⟩⟩
    · rw [decide_eq_false hl, Bool.false_and] at q
      rw [decide_eq_false hl]
      exact iteF q
theorem scAreInts : FnScope ["value", "item"] ["value"] (defScope sAreInts) := ⟨rfl, rfl, rfl, by decide +kernel, rfl, by decide +kernel, by decide +kernel⟩
theorem ok_areInts (G : Glob mg) (HI : HasInt P w K mg base) (HL : HasListed P w K mg base) (F : DefAt K "are_integers" "are_integers" sAreInts f fd) : FnOk P w K mg base CX0 2 f fd ["value"] (spAreInts K) := by
  obtain ⟨fi, fdi, mI, kI, bI, GI⟩ := HI.h
  obtain ⟨fl, fdl, mL, kL, bL, GL⟩ := HL.h
  refine okN F scAreInts (fun vs H Q E ⟨v, e, _⟩ => by rw [e]; rfl) (fun cdv A outer s H vs Q E hr ⟨v, e, h⟩ => ?_)
  subst e
  refine ⟨_, pss_one (ps_ret (pe_and (pe_call GL hr rfl mL kL bL .nil pass0 (pa_cons (pv 0) pa_nil))
        (pe_one (pe_callB (cr_all rfl) (by rfl) G.all (by decide +kernel) (pa_cons
          (pe_lc (own := [("item", 1)]) (g := gName 1) (tt := tYes) rfl scAreInts.nd (pi_seq (pv 0)) (blkOk_by (N := ["value", "item"]) (sc := defScope sAreInts) (by decide +kernel))
            (fun _ _ _ _ _ => pg_name (i := 1) scAreInts.nd rfl (Or.inl rfl)) (fun _ _ _ _ _ => pts_nil) (fun _ _ _ _ _ => pe_call GI hr rfl mI kI bI .nil pass0 (pa_cons (pv 1) pa_nil))) pa_nil))))), ?_⟩
  rcases h with ⟨ns, q⟩ | ⟨a, xs, bs, rfl, sq, hl, ib, q⟩
  · exact ⟨_, rfl, v, rfl, .inl ⟨ns, fun H1 s1 => ⟨false, rfl, iteF (q H1 s1)⟩⟩⟩
  · refine ⟨_, rfl, _, rfl, .inr ⟨a, xs, rfl, sq, fun H1 s1 => ⟨true, rfl, iteT ?_⟩⟩⟩
    refine ⟨_, rfl, a, rfl, ?_⟩
    refine lc_seqA (sq.same s1) fun D hD => ⟨fun i H2 => Same H1 H2 ∧ H2 D = some (.lst ((bs.take i).map V.bl)), ⟨upd_new hD, by simpa using upd_same⟩, fun i H2 _ z => ?_, ?_, ?_⟩
    · obtain ⟨o, e⟩ := (sq.same s1).there
      rw [e, z.1 _ _ e]
    · rintro i x H2 hx ⟨s2, h2⟩
      refine ⟨rfl, yes_of ?_⟩
      obtain ⟨b, eb, z⟩ := (ib.same (s1.trans s2)).2 i x hx
      have fin : ∃ acc, H2 D = some (.lst acc) ∧ acc.length < sizeLine ∧ (Same H1 (upd H2 D (.lst (acc ++ [.bl b]))) ∧ upd H2 D (.lst (acc ++ [.bl b])) D = some (.lst ((bs.take (i + 1)).map V.bl))) := by
        refine ⟨_, h2, ?_, fun c o e => ?_, ?_⟩
        · have := (List.getElem?_eq_some_iff.mp hx).1
          rw [List.length_map, List.length_take, sizeLine_eq]
          omega
        · rw [upd_ne (ne_of_none e hD)]
          exact s2 c o e
        · rw [upd_same, take_bl eb]
      rcases z with ⟨rfl, n, rfl⟩ | ⟨rfl, ni⟩
      · exact ⟨_, rfl, _, rfl, .inr ⟨n, rfl, fin⟩⟩
      · exact ⟨_, rfl, _, rfl, .inl ⟨ni, fin⟩⟩
    · rintro H2 ⟨s2, h2⟩
      rw [ib.1, List.take_length] at h2
      exact ⟨D, bs, rfl, SqL.of h2, q H2 (s1.trans s2)⟩
end
end K18

/-! k18: check_none_twice, check_hand, hands_told, done_told. -/
namespace K18
open PySem PySem.Spec PyProof.Rows L2 LamX K1

abbrev InM (m n : Int) : Prop := 0 ≤ n ∧ n < m
/-- the errors' classes, with what their raising needs -/
structure Errs (P : Program) (w : World) (K : PySem.W.Frag) (mg : Str → Option Value) (base : Heap) (CW CD CH CT CU CM : Addr) : Prop where
  swap : ErrR P w K mg base CW "BadSwap" ["part"]
  done : ErrR P w K mg base CD "BadDone" ["part"]
  hand : ErrR P w K mg base CH "NoHand" ["number"]
  twice : ErrR P w K mg base CT "Twice" ["value"]
  unlike : ErrR P w K mg base CU "Unlike" ["what"]
  many : ErrR P w K mg base CM "TooMany" ["what", "most"]
theorem ToldF.from {H H1 H' : Hp} {d : Addr} {fs : List (Str × V)} (s : Same H H1) (h : ToldF H1 H' d fs) : ToldF H H' d fs := ⟨fun b o e => h.same b o (s b o e), s.free h.new, h.at_⟩
/-- the first that stands twice -/
def DupAt (ns : List Int) (i : Nat) (n : Int) : Prop := ns[i]? = some n ∧ n ∈ ns.take i ∧ (ns.take i).Nodup
def spTwice (CT : Addr) : Sp := fun vs H Q E => ∃ (a : Addr) (ns : List Int), vs = [.ref a] ∧ SqA H a (ns.map V.int) ∧ ns.length ≤ 1000 ∧ (ns.Nodup → ∀ H', Same H H' → Q .non H') ∧
  ∀ i n, DupAt ns i n → ∀ d H', ToldF H H' d [("value", .int n)] → E (.ref CT) (some d) H'
def spHand (K : PySem.W.Frag) (CH : Addr) : Sp := fun vs H Q E => ∃ (m : Int) (v : V), vs = [.int m, v] ∧ ((∃ n, v = .int n ∧ InM m n ∧ ∀ H', Same H H' → Q .non H') ∨
  ((NotInt K H v ∨ ∃ n, v = .int n ∧ ¬ InM m n) ∧ ∀ d H', ToldF H H' d [("number", v)] → E (.ref CH) (some d) H'))
/-- hands_told: an odd value; or ints, with what becomes of them -/
def HandsW (K : PySem.W.Frag) (CD CH CT : Addr) (m : Int) (v part : V) (H : Hp) (E : XK) (k : List Int → Addr → Prop) : Prop :=
  ((NotSeq K H v ∨ ∃ a xs bs, v = .ref a ∧ SqA H a xs ∧ xs.length ≤ 1000 ∧ IBs K H xs bs ∧ bs.all id = false) ∧ ∀ d H', ToldF H H' d [("part", part)] → E (.ref CD) (some d) H') ∨
  (∃ (a : Addr) (ns : List Int), v = .ref a ∧ SqA H a (ns.map V.int) ∧ ns.length ≤ 1000 ∧
    (∀ i n, ns[i]? = some n → ¬ InM m n → (∀ x ∈ ns.take i, InM m x) → ∀ d H', ToldF H H' d [("number", .int n)] → E (.ref CH) (some d) H') ∧
    ((∀ x ∈ ns, InM m x) → ∀ i n, DupAt ns i n → ∀ d H', ToldF H H' d [("value", .int n)] → E (.ref CT) (some d) H') ∧
    ((∀ x ∈ ns, InM m x) → ns.Nodup → k ns a))
def spHands (K : PySem.W.Frag) (CD CH CT : Addr) : Sp := fun vs H Q E => ∃ (m : Int) (v part : V), vs = [.int m, v, part] ∧ HandsW K CD CH CT m v part H E fun ns a => ∀ (t : Addr) (H' : Hp), Same H H' → H' t = some (.tup (ns.map V.int)) → Q (.ref t) H'
def spDone (K : PySem.W.Frag) (CD CH CT : Addr) : Sp := fun vs H Q E => ∃ (m : Int) (v part : V), vs = [.int m, v, part] ∧ HandsW K CD CH CT m v part H E fun ns a => ∀ (ms : List Int) (t : Addr) (H' : Hp), ms.Perm ns → ms.Pairwise (· ≤ ·) → Same H H' → H' t = some (.tup (ms.map V.int)) → Q (.ref t) H'
section
variable {P : Program} {w : World} {K : PySem.W.Frag} {mg : Str → Option Value} {base : Heap} {f C CW CD CH CT CU CM : Addr} {fd : FuncData}
theorem decIn (m n : Int) : (decide (0 ≤ n) && decide (n ≤ m - 1)) = decide (InM m n) := by
  by_cases h : InM m n
  · rw [decide_eq_true h, decide_eq_true h.1, decide_eq_true (by have := h.2; omega : n ≤ m - 1)]; rfl
  · rw [decide_eq_false h]
    by_cases h0 : 0 ≤ n
    · rw [decide_eq_true h0, decide_eq_false (fun z => h ⟨h0, by omega⟩)]; rfl
    · rw [decide_eq_false h0]; rfl
theorem scHand : FnScope ["many", "value"] ["many", "value"] (defScope sHand) := ⟨rfl, rfl, rfl, by decide +kernel, rfl, by decide +kernel, by decide +kernel⟩
theorem ok_hand (HW : HasWithin P w K mg base) (B : Errs P w K mg base CW CD CH CT CU CM) (F : DefAt K "check_hand" "check_hand" sHand f fd) : FnOk P w K mg base (L2.CX P w) 4 f fd ["many", "value"] (spHand K CH) := by
  obtain ⟨fw, fdw, mW, kW, bW, GW⟩ := HW.h
  refine okX F scHand (fun vs H Q E ⟨m, v, e, _⟩ => by rw [e]; rfl) (fun cdv A outer s H vs Q E hr ⟨m, v, e, h⟩ => ?_)
  subst e
  have tk : Takes (cxOf (L2.CX P w) P w K mg base ["many", "value"] "check_hand" (defScope sHand) f cdv A outer s H E) (fun cls d _ H' => E cls d H') := takes_of rfl rfl rfl rfl
  refine ⟨_, pss_one (ps_if (pt_not (pt_val (pe_call GW (hr.mono (by decide)) rfl mW kW bW .nil pass0 (pa_cons (pv 1) (pa_cons pe_int (pa_cons (pe_op op_sub (pv 0) pe_int) pa_nil)))))) (pss_one (ps_rs B.hand rfl tk (hr.mono (by decide)) (pa_cons (pv 1) pa_nil))) pss_nil), ?_⟩
  refine ⟨_, rfl, _, rfl, _, _, rfl, rfl, v, 0, m - 1, rfl, ?_⟩
  rcases h with ⟨n, rfl, hn, q⟩ | ⟨h, q⟩
  · refine .inr ⟨n, rfl, true, by rw [decIn, decide_eq_true hn], iteF ?_⟩
    exact q H (Same.refl H)
  · rcases h with ni | ⟨n, rfl, hn⟩
    · exact .inl ⟨ni, false, rfl, iteT (rs_v rfl q)⟩
    · exact .inr ⟨n, rfl, false, by rw [decIn, decide_eq_false hn], iteT (rs_v rfl q)⟩
theorem scTwice : FnScope ["items", "met", "item"] ["items"] (defScope sNoneTwice) := ⟨rfl, rfl, rfl, by decide +kernel, rfl, by decide +kernel, by decide +kernel⟩
theorem putK_len {kvs : List (Key × V)} {k : Key} {v : V} : (putK kvs k v).length ≤ kvs.length + 1 := by
  unfold putK
  split
  · simp
  · simp
theorem ok_twice (B : Errs P w K mg base CW CD CH CT CU CM) (F : DefAt K "check_none_twice" "check_none_twice" sNoneTwice f fd) : FnOk P w K mg base (L2.CX P w) 4 f fd ["items"] (spTwice CT) := by
  refine okX F scTwice (fun vs H Q E ⟨a, ns, e, _⟩ => by rw [e]; rfl) (fun cdv A outer s H vs Q E hr ⟨a, ns, e, sq, hl, q1, q2⟩ => ?_)
  subst e
  have hu := hu_of hr
  have tk : Takes (cxOf (L2.CX P w) P w K mg base ["items", "met", "item"] "check_none_twice" (defScope sNoneTwice) f cdv A outer s H E) (fun cls d _ H' => E cls d H') := takes_of rfl rfl rfl rfl
  refine ⟨_, pss_cons (ps_set (i := 1) scTwice.nd rfl (Or.inl rfl) pe_dnewK) (pss_one (ps_for (passes_of rfl) rfl (pi_seq (pv 0)) (pg_name (i := 2) scTwice.nd rfl (Or.inl rfl))
    (pss_cons (ps_if (pt_cmp (pc_din hu (pv 2) (pv 1))) (pss_one (ps_rs B.twice rfl tk (hr.mono (by decide)) (pa_cons (pv 2) pa_nil))) pss_nil)
    (pss_one (ps_dput hu (pv 1) (pv 2) pe_bl rfl))))), ?_⟩
  intro M hM
  have sM := upd_new (o := .dK []) hM
  have aM : a ≠ M := sq.ne hM
  refine ⟨_, rfl, a, rfl, ?_⟩
  refine for_seqA (sq.same sM) (fun i σ H2 => ∃ (kvs : List (Key × V)) (z : Option V), σ = [some (.ref a), some (.ref M), z] ∧ H2 = upd H M (.dK kvs) ∧ kvs.length ≤ i ∧ (ns.take i).Nodup ∧ ∀ n : Int, valV kvs (Sum.inl n) = if n ∈ ns.take i then some (.bl true) else none)
    ⟨[], none, rfl, rfl, Nat.zero_le _, by simp, fun n => by simp [valV_nil]⟩ ?_ ?_ ?_
  · rintro i σ' H' _ ⟨kvs, z, _, rfl, _⟩
    rw [upd_ne aM, upd_ne aM]
  · rintro i x σ H2 hx ⟨kvs, z, rfl, rfl, lk, nd, val⟩
    rw [List.getElem?_map] at hx
    obtain ⟨n, hn, rfl⟩ : ∃ n, ns[i]? = some n ∧ x = .int n := by
      cases e : ns[i]? with
      | none => rw [e] at hx; cases hx
      | some n => rw [e] at hx; cases hx; exact ⟨n, rfl, rfl⟩
    have hi := (List.getElem?_eq_some_iff.mp hn).1
    refine ⟨_, rfl, _, rfl, M, _, rfl, DGet.k (k := Sum.inl n) upd_same, _, rfl, ?_⟩
    rw [val n]
    by_cases hm : n ∈ ns.take i
    · rw [if_pos hm]
      exact iteT (rs_v rfl fun d H' t => q2 i n ⟨hn, hm, nd⟩ d H' (t.from (upd_new hM)))
    · rw [if_neg hm]
      refine iteF ⟨_, rfl, _, rfl, M, _, rfl, DPut.k (k := Sum.inl n) upd_same (by rw [sizeLine_eq]; omega), ?_⟩
      refine ⟨putK kvs (Sum.inl n) (.bl true), _, rfl, by rw [upd_upd], Nat.le_trans putK_len (by omega), ?_, fun j => ?_⟩
      · obtain ⟨hj, ej⟩ := List.getElem?_eq_some_iff.mp hn
        rw [List.take_succ_eq_append_getElem hj, ej]
        refine List.nodup_append.mpr ⟨nd, by simp, fun y hy z hz => ?_⟩
        rw [List.mem_singleton] at hz
        subst hz
        rintro rfl
        exact hm hy
      · obtain ⟨hj, ej⟩ := List.getElem?_eq_some_iff.mp hn
        rw [valV_put, val j, List.take_succ_eq_append_getElem hj, ej]
        by_cases e : j = n
        · subst e; simp
        · simp [e]
  · rintro σ H2 ⟨kvs, z, rfl, rfl, lk, nd, val⟩
    rw [List.length_map, List.take_length] at nd
    exact q1 nd _ (upd_new hM)
end
end K18

/-! k18: sorted(a tuple of ints). -/
namespace K18
open PySem PySem.Spec PyProof.Rows L2 LamX K1

def rSortedTI (K : PySem.W.Frag) : List V → Hp → VK → Prop := fun vs H Q => ∃ (a : Addr) (ns : List Int), vs = [V.ref a] ∧ SqT K H a (ns.map V.int) ∧ ∀ (ms : List Int) (p : Addr), ms.Perm ns → ms.Pairwise (· ≤ ·) → H p = none → Q (.ref p) (upd H p (.lst (ms.map V.int)))
theorem obj_there {P : Program} {w : World} {H : Hp} {h : Heap} {a : Addr} : ∀ {o : HO}, ObjOk P w H h a o → ∃ u, h.get? a = some u
  | .lst _, ⟨_, _, _, _, e⟩ => ⟨_, e⟩
  | .tup _, ⟨_, _, _, ⟨o, e, _⟩⟩ => ⟨o, e⟩
  | .dK _, ⟨_, _, _, _, o, _, _, e, _⟩ => ⟨o, e⟩
  | .dT _, ⟨_, _, _, _, o, _, _, e, _⟩ => ⟨o, e⟩
  | .set _ _, ⟨o, _, _, _, e, _⟩ => ⟨o, e⟩
  | .ins _ _ _, ⟨_, _, _, e, _⟩ => ⟨_, e⟩
  | .own _, e => e
  | .xd _, ⟨_, ⟨o, _, _, e, _⟩, _⟩ => ⟨o, e⟩
  | .rng _ _, ⟨_, _, _, e⟩ => ⟨_, e⟩
  | .frz _ _, ⟨e, _⟩ => ⟨_, e⟩
  | .tbl _, e => ⟨_, e⟩
  | .met _ _, e => ⟨_, e⟩
  | .ext _, ⟨_, e, _⟩ => e
theorem cr_sortedTI {X : Cx} : CallR X (.builtin "sorted") (rSortedTI X.K) := by
  intro pins s σ H vs us Q I r h
  obtain ⟨a, ns, rfl, hs, q⟩ := h
  obtain ⟨its, rv, hl, hz⟩ := I.tuple hs
  rw [Vals.ref1 r]
  have hi := rv.ints
  have hz2 : its.length ≤ sizeLine := by rw [← rv.length]; exact hz
  obtain ⟨o, ho, hc, n, hd⟩ := (show s.heap.IsTuple a its.toArray from hl)
  refine Calls.call_function_entry kind_sorted plain_sorted entry_sorted (args_sorted1 _) ?_
  unfold Builtin.«sorted»
  refine wpAny_bind (m := checkCount "sorted" 1 1 _) (wpAny_pure ?_)
  refine wpAny_bind (wpAny_collect_seq a (.inr rfl) ho hc hd (fun g keep => ?_) (by simpa using hz2))
  refine wpAny_bind (wpAny_newList ?_ (by simpa using hz2))
  have at1 : (g.push (seqObj "list" its.toArray 0)).get? g.objs.size = some (seqObj "list" its.toArray 0) := Heap.get?_push_size _ rfl
  refine wpAny_bind (wpAny_holding (wpAny_call_entry slot_list_sort ⟨_, at1, rfl⟩ entry_list_sort (SrtO.list_sort_ord SrtO.swo_int at1 hz2 (fun h2 => SrtO.ints_sortable hi h2) fun out h1 h2 => ⟨_, rfl, ?_⟩) (args_list_sort _)))
  obtain ⟨k1, k2, k3⟩ := SrtO.ints_out hi h1 h2
  obtain ⟨ep, at2⟩ := PyProof.Rows.sortedHeap_at (vs := its) (out := out.toArray) at1
  have len : ((out.map SrtO.iv).map V.int).length ≤ sizeLine := by
    rw [List.length_map, k2.length_eq]
    rw [List.length_map] at hz
    exact hz
  have nh : s.heap.get? g.objs.size = none := by
    cases e : s.heap.get? g.objs.size with
    | none => rfl
    | some o => exact absurd (Heap.lt_size (keep _ _ e)) (Nat.lt_irrefl _)
  have nH : H g.objs.size = none := by
    cases e : H g.objs.size with
    | none => rfl
    | some u =>
      obtain ⟨o, e2⟩ := obj_there (I.hok _ u e)
      rw [nh] at e2
      cases e2
  have J : Inv X pins σ (upd H g.objs.size (.lst ((out.map SrtO.iv).map V.int))) { s with heap := PyProof.Rows.sortedHeap (g.push (seqObj "list" its.toArray 0)) g.objs.size its out.toArray, toks := s.toks } := by
    refine L2.Inv.laidN I (fun b u e => ?_) nh nH ⟨len, out, ep, vals_of_ints k1, at2⟩
    have e1 := Heap.get?_push_of_some (seqObj "list" its.toArray 0) (keep b u e)
    rw [PyProof.Rows.sortedHeap_old (Nat.ne_of_lt (Heap.lt_size (keep b u e))) (Heap.lt_size e1)]
    exact e1
  exact wpAny_pure ⟨_, rfl, .ref g.objs.size, _, J, rfl, q _ _ k2 k3 nH⟩
end K18

/-! k18: hands_told, done_told, mask_of, numbers_in. -/
namespace K18
open PySem PySem.Spec PyProof.Rows L2 LamX K1

theorem ints_at {ns : List Int} {i : Nat} {x : V} (h : (ns.map V.int)[i]? = some x) : ∃ n, ns[i]? = some n ∧ x = .int n := by
  rw [List.getElem?_map] at h
  cases e : ns[i]? with
  | none => rw [e] at h; cases h
  | some n => rw [e] at h; cases h; exact ⟨n, rfl, rfl⟩
section
variable {P : Program} {w : World} {K : PySem.W.Frag} {mg : Str → Option Value} {base : Heap} {f C CW CD CH CT CU CM : Addr} {fd : FuncData}
abbrev HasHand (P : Program) (w : World) (K : PySem.W.Frag) (mg : Str → Option Value) (base : Heap) (CH : Addr) : Prop := Has P w K mg base (L2.CX P w) 4 "check_hand" ["many", "value"] (spHand K CH)
abbrev HasTwice (P : Program) (w : World) (K : PySem.W.Frag) (mg : Str → Option Value) (base : Heap) (CT : Addr) : Prop := Has P w K mg base (L2.CX P w) 4 "check_none_twice" ["items"] (spTwice CT)
abbrev HasHands (P : Program) (w : World) (K : PySem.W.Frag) (mg : Str → Option Value) (base : Heap) (CD CH CT : Addr) : Prop := Has P w K mg base (L2.CX P w) 5 "hands_told" ["many", "value", "part"] (spHands K CD CH CT)
abbrev nHands : List Str := ["many", "value", "part", "number"]
theorem scHands : FnScope nHands ["many", "value", "part"] (defScope sHands) := ⟨rfl, rfl, rfl, by decide +kernel, rfl, by decide +kernel, by decide +kernel⟩
theorem ok_hands (G : Glob mg) (HI : HasAreInts P w K mg base) (HW : HasWithin P w K mg base) (HT : HasTwice P w K mg base CT) (B : Errs P w K mg base CW CD CH CT CU CM) (F : DefAt K "hands_told" "hands_told" sHands f fd) :
    FnOk P w K mg base (L2.CX P w) 5 f fd ["many", "value", "part"] (spHands K CD CH CT) := by
  obtain ⟨fi, fdi, mI, kI, bI, GI⟩ := HI.h
  obtain ⟨fw, fdw, mW, kW, bW, GW⟩ := HW.h
  obtain ⟨ft, fdt, mT, kT, bT, GT⟩ := HT.h
  refine okX F scHands (fun vs H Q E ⟨m, v, part, e, _⟩ => by rw [e]; rfl) (fun cdv A outer s H vs Q E hr ⟨m, v, part, e, h⟩ => ?_)
  subst e
  have tk : Takes (cxOf (L2.CX P w) P w K mg base nHands "hands_told" (defScope sHands) f cdv A outer s H E) (fun cls d _ H' => E cls d H') := takes_of rfl rfl rfl rfl
  have ps := passes_call tk (E := E) fun _ _ _ _ z => z
  refine ⟨_, pss_cons (ps_if (pt_not (pt_val (pe_call GI (hr.mono (by decide)) rfl mI kI bI .nil pass0 (pa_cons (pv 1) pa_nil)))) (pss_one (ps_rs B.done rfl tk (hr.mono (by decide)) (pa_cons (pv 2) pa_nil))) pss_nil)
    (pss_cons (ps_for (passes_of rfl) rfl (pi_seq (pv 1)) (pg_name (i := 3) scHands.nd rfl (Or.inl rfl))
      (pss_one (ps_if (pt_not (pt_val (pe_call GW (hr.mono (by decide)) rfl mW kW bW .nil pass0 (pa_cons (pv 3) (pa_cons pe_int (pa_cons (pe_op op_sub (pv 0) pe_int) pa_nil)))))) (pss_one (ps_rs B.hand rfl tk (hr.mono (by decide)) (pa_cons (pv 3) pa_nil))) pss_nil)))
    (pss_cons (ps_expr (pe_call GT hr rfl mT kT bT .nil ps (pa_cons (pv 1) pa_nil)))
    (pss_one (ps_ret (pe_callTy call_tuple_of (by rfl) G.tup (by decide +kernel) (pa_cons (pv 1) pa_nil)))))), ?_⟩
  rcases h with ⟨h, q⟩ | ⟨a, ns, rfl, sq, hl, qH, qT, qK⟩
  · refine call1 (i := 1) rfl ⟨v, rfl, ?_⟩
    rcases h with ni | ⟨a, xs, bs, rfl, sq, hl, ib, all⟩
    · exact .inl ⟨ni, fun H1 s1 => ⟨false, rfl, iteT (rs_v rfl fun d H' t => q d H' (t.from s1))⟩⟩
    · refine .inr ⟨a, xs, bs, rfl, sq, hl, ib, fun H1 s1 => ⟨false, by rw [all], iteT (rs_v rfl fun d H' t => q d H' (t.from s1))⟩⟩
  · refine call1 (i := 1) rfl ⟨_, rfl, .inr ⟨a, _, _, rfl, sq, by rw [List.length_map]; exact hl, IBs.ints ns, fun H1 s1 => ⟨true, by simp, iteF ?_⟩⟩⟩
    have sq1 := sq.same s1
    refine ⟨_, rfl, a, rfl, ?_⟩
    refine for_seqA sq1 (fun i σ H2 => H2 = H1 ∧ (∀ x ∈ ns.take i, InM m x) ∧ ∃ z, σ = [some (.int m), some (.ref a), some part, z]) ⟨rfl, fun x hx => by simp at hx, none, rfl⟩ (fun i σ' H' _ z => by rw [z.1]) ?_ ?_
    · rintro i x σ H2 hx ⟨rfl, al, z, rfl⟩
      obtain ⟨n, hn, rfl⟩ := ints_at hx
      refine ⟨_, rfl, _, rfl, _, _, rfl, rfl, _, 0, m - 1, rfl, .inr ⟨n, rfl, decide (InM m n), by rw [decIn], ?_⟩⟩
      by_cases hin : InM m n
      · rw [decide_eq_true hin]
        refine iteF ⟨rfl, fun y hy => ?_, _, rfl⟩
        obtain ⟨hj, ej⟩ := List.getElem?_eq_some_iff.mp hn
        rw [List.take_succ_eq_append_getElem hj, ej] at hy
        rcases List.mem_append.mp hy with hy | hy
        · exact al y hy
        · rw [List.mem_singleton] at hy; subst hy; exact hin
      · rw [decide_eq_false hin]
        exact iteT (rs_v rfl fun d H' t => qH i n hn hin al d H' (t.from s1))
    · rintro σ H2 ⟨rfl, al, z, rfl⟩
      rw [List.length_map, List.take_length] at al
      refine call1 (i := 1) rfl ⟨a, ns, rfl, sq1, hl, fun nd H3 s3 => ?_, fun i n dup d H' t => qT al i n dup d H' (t.from s1)⟩
      have fin := qK al nd
      refine ⟨_, rfl, a, ns.map V.int, rfl, ?_⟩
      rcases sq1.same s3 with h3 | h3
      · exact .inl ⟨SqL.of h3, fun l nl => fin l _ ((s1.trans s3).trans (upd_new nl)) upd_same⟩
      · exact .inr ⟨SqT.of h3, fin a _ (s1.trans s3) h3⟩
end
end K18

/-! Ratios in lowest terms: the mathematics. -/
namespace K1

/-- the common divisor, with the bottom's sign -/
def com (t b : Int) : Int := if b > 0 then (Nat.gcd t.natAbs b.natAbs : Int) else -(Nat.gcd t.natAbs b.natAbs : Int)
def rT (t b : Int) : Int := t.fdiv (com t b)
def rB (t b : Int) : Int := b.fdiv (com t b)

theorem gcd_pos {t b : Int} (h : b ≠ 0) : 0 < (Nat.gcd t.natAbs b.natAbs : Int) := by
  have := Nat.gcd_pos_of_pos_right t.natAbs (show 0 < b.natAbs by omega)
  omega
theorem com_ne {t b : Int} (h : b ≠ 0) : com t b ≠ 0 := by
  have := gcd_pos (t := t) h
  unfold com
  split <;> omega
theorem com_dvd_t (t b : Int) : com t b ∣ t := by
  have h : (Nat.gcd t.natAbs b.natAbs : Int) ∣ t := Int.ofNat_dvd_left.mpr (Nat.gcd_dvd_left _ _)
  unfold com
  split
  · exact h
  · exact Int.neg_dvd.mpr h
theorem com_dvd_b (t b : Int) : com t b ∣ b := by
  have h : (Nat.gcd t.natAbs b.natAbs : Int) ∣ b := Int.ofNat_dvd_left.mpr (Nat.gcd_dvd_right _ _)
  unfold com
  split
  · exact h
  · exact Int.neg_dvd.mpr h
theorem fdiv_mul {a c : Int} (h : c ∣ a) : a.fdiv c * c = a := by
  obtain ⟨k, rfl⟩ := h
  by_cases hc : c = 0
  · subst hc; simp
  · rw [Int.mul_fdiv_cancel_left _ hc, Int.mul_comm]
theorem rT_mul (t b : Int) : rT t b * com t b = t := fdiv_mul (com_dvd_t t b)
theorem rB_mul (t b : Int) : rB t b * com t b = b := fdiv_mul (com_dvd_b t b)
theorem rB_pos {t b : Int} (h : b ≠ 0) : 0 < rB t b := by
  have e := rB_mul t b
  have g := gcd_pos (t := t) h
  unfold com at e
  by_cases hb : b > 0
  · rw [if_pos hb] at e
    exact Int.pos_of_mul_pos_left (by omega : 0 < rB t b * _) g |> fun z => z
  · rw [if_neg hb, Int.mul_neg] at e
    have z : 0 < rB t b * (Nat.gcd t.natAbs b.natAbs : Int) := by omega
    exact Int.pos_of_mul_pos_left z g

theorem com_abs (t b : Int) : (com t b).natAbs = Nat.gcd t.natAbs b.natAbs := by
  unfold com
  split
  · exact Int.natAbs_natCast _
  · rw [Int.natAbs_neg, Int.natAbs_natCast]
theorem red_cop {t b : Int} (h : b ≠ 0) : Nat.gcd (rT t b).natAbs (rB t b).natAbs = 1 := by
  have e1 := congrArg Int.natAbs (rT_mul t b)
  have e2 := congrArg Int.natAbs (rB_mul t b)
  rw [Int.natAbs_mul, com_abs] at e1 e2
  have g := Nat.gcd_pos_of_pos_right t.natAbs (show 0 < b.natAbs by omega)
  have z : Nat.gcd (rT t b).natAbs (rB t b).natAbs * Nat.gcd t.natAbs b.natAbs = 1 * Nat.gcd t.natAbs b.natAbs := by
    rw [← Nat.gcd_mul_right, e1, e2, Nat.one_mul]
  exact Nat.eq_of_mul_eq_mul_right g z
theorem low_unique {p q p' q' : Int} (hq : 0 < q) (hq' : 0 < q') (h : Nat.gcd p.natAbs q.natAbs = 1) (h' : Nat.gcd p'.natAbs q'.natAbs = 1) (e : p * q' = p' * q) : p = p' ∧ q = q' := by
  have n := congrArg Int.natAbs e
  rw [Int.natAbs_mul, Int.natAbs_mul] at n
  have d1 : q.natAbs ∣ q'.natAbs := Nat.Coprime.dvd_of_dvd_mul_left (k := q.natAbs) (m := p.natAbs) (show Nat.gcd q.natAbs p.natAbs = 1 by rw [Nat.gcd_comm]; exact h) ⟨p'.natAbs, by rw [n, Nat.mul_comm]⟩
  have d2 : q'.natAbs ∣ q.natAbs := Nat.Coprime.dvd_of_dvd_mul_left (k := q'.natAbs) (m := p'.natAbs) (show Nat.gcd q'.natAbs p'.natAbs = 1 by rw [Nat.gcd_comm]; exact h') ⟨p.natAbs, by rw [← n, Nat.mul_comm]⟩
  have eq : q = q' := by
    have := Nat.dvd_antisymm d1 d2
    omega
  subst eq
  exact ⟨Int.eq_of_mul_eq_mul_right (by omega) e, rfl⟩
/-- equal by the cross: told alike -/
theorem red_eq {t b t' b' : Int} (h : b ≠ 0) (h' : b' ≠ 0) (e : t * b' = t' * b) : rT t b = rT t' b' ∧ rB t b = rB t' b' := by
  refine low_unique (rB_pos h) (rB_pos h') (red_cop h) (red_cop h') ?_
  have c1 := com_ne (t := t) h
  have c2 := com_ne (t := t') h'
  have e1 := rT_mul t b
  have e2 := rB_mul t b
  have e3 := rT_mul t' b'
  have e4 := rB_mul t' b'
  have z : (rT t b * rB t' b') * (com t b * com t' b') = (rT t' b' * rB t b) * (com t b * com t' b') := by
    have l : (rT t b * rB t' b') * (com t b * com t' b') = (rT t b * com t b) * (rB t' b' * com t' b') := by ac_rfl
    have r : (rT t' b' * rB t b) * (com t b * com t' b') = (rT t' b' * com t' b') * (rB t b * com t b) := by ac_rfl
    rw [l, r, e1, e2, e3, e4, e]
  exact Int.eq_of_mul_eq_mul_right (Int.mul_ne_zero c1 c2) z
theorem red_low {t b : Int} (hb : 0 < b) (h : Nat.gcd t.natAbs b.natAbs = 1) : rT t b = t ∧ rB t b = b := by
  have c : com t b = 1 := by unfold com; rw [if_pos hb, h]; rfl
  unfold rT rB
  rw [c]
  exact ⟨Int.fdiv_one _, Int.fdiv_one _⟩
theorem red_one (t : Int) : rT t 1 = t ∧ rB t 1 = 1 := red_low (by decide) (by simp)
theorem cross {t b : Int} (h : b ≠ 0) : rT t b * b = t * rB t b := by
  have e1 := rT_mul t b
  have e2 := rB_mul t b
  have : rT t b * (rB t b * com t b) = rT t b * com t b * rB t b := by ac_rfl
  rw [e1, e2] at this
  exact this
theorem rT_zero {t b : Int} (h : b ≠ 0) : rT t b = 0 ↔ t = 0 := by
  have e := rT_mul t b
  constructor
  · intro z; rw [z] at e; simpa using e.symm
  · intro z; subst z; unfold rT; exact Int.zero_fdiv _
/-! bounds -/
theorem natAbs_le_mul {p c : Int} (hc : c ≠ 0) : p.natAbs ≤ (p * c).natAbs := by
  rw [Int.natAbs_mul]
  exact Nat.le_mul_of_pos_right _ (by omega)
theorem rT_le {t b : Int} (h : b ≠ 0) : (rT t b).natAbs ≤ t.natAbs := by
  have := natAbs_le_mul (p := rT t b) (com_ne (t := t) h)
  rwa [rT_mul] at this
theorem rB_le {t b : Int} (h : b ≠ 0) : (rB t b).natAbs ≤ b.natAbs := by
  have := natAbs_le_mul (p := rB t b) (com_ne (t := t) h)
  rwa [rB_mul] at this
/-! Euclid's loop, by the floor's rest -/
theorem euclid_step (a b : Int) : Int.gcd b (a.fmod b) = Int.gcd a b := by
  rw [Int.fmod_def, Int.gcd_sub_mul_left_right, Int.gcd_comm]
theorem fmod_small {a b : Int} (h : b ≠ 0) : (a.fmod b).natAbs < b.natAbs := by
  by_cases hb : 0 < b
  · have h1 := Int.fmod_nonneg_of_pos a hb
    have h2 := Int.fmod_lt_of_pos a hb
    omega
  · have e : a.fmod b = -((-a).fmod (-b)) := by
      have z := Int.neg_fmod_neg (a := a) (b := b)
      omega
    have h1 := Int.fmod_nonneg_of_pos (-a) (show 0 < -b by omega)
    have h2 := Int.fmod_lt_of_pos (-a) (show 0 < -b by omega)
    omega

section
variable {a0 a1 b0 b1 : Int} (ha : a1 ≠ 0) (hb : b1 ≠ 0)
include ha hb
theorem mul_ne : a1 * b1 ≠ 0 := Int.mul_ne_zero ha hb
theorem qq_ne : rB a0 a1 * rB b0 b1 ≠ 0 := Int.mul_ne_zero (by have := rB_pos (t := a0) ha; omega) (by have := rB_pos (t := b0) hb; omega)
theorem sum_red : rT (rT a0 a1 * rB b0 b1 + rT b0 b1 * rB a0 a1) (rB a0 a1 * rB b0 b1) = rT (a0 * b1 + b0 * a1) (a1 * b1) ∧ rB (rT a0 a1 * rB b0 b1 + rT b0 b1 * rB a0 a1) (rB a0 a1 * rB b0 b1) = rB (a0 * b1 + b0 * a1) (a1 * b1) := by
  refine red_eq (qq_ne ha hb) (mul_ne ha hb) ?_
  have x := cross (t := a0) ha
  have y := cross (t := b0) hb
  have l : (rT a0 a1 * rB b0 b1 + rT b0 b1 * rB a0 a1) * (a1 * b1) = (rT a0 a1 * a1) * (rB b0 b1 * b1) + (rT b0 b1 * b1) * (rB a0 a1 * a1) := by rw [Int.add_mul]; congr 1 <;> ac_rfl
  rw [l, x, y, Int.add_mul]
  congr 1 <;> ac_rfl
theorem dif_red : rT (rT a0 a1 * rB b0 b1 - rT b0 b1 * rB a0 a1) (rB a0 a1 * rB b0 b1) = rT (a0 * b1 - b0 * a1) (a1 * b1) ∧ rB (rT a0 a1 * rB b0 b1 - rT b0 b1 * rB a0 a1) (rB a0 a1 * rB b0 b1) = rB (a0 * b1 - b0 * a1) (a1 * b1) := by
  refine red_eq (qq_ne ha hb) (mul_ne ha hb) ?_
  have x := cross (t := a0) ha
  have y := cross (t := b0) hb
  have l : (rT a0 a1 * rB b0 b1 - rT b0 b1 * rB a0 a1) * (a1 * b1) = (rT a0 a1 * a1) * (rB b0 b1 * b1) - (rT b0 b1 * b1) * (rB a0 a1 * a1) := by rw [Int.sub_mul]; congr 1 <;> ac_rfl
  rw [l, x, y, Int.sub_mul]
  congr 1 <;> ac_rfl
theorem mul_red : rT (rT a0 a1 * rT b0 b1) (rB a0 a1 * rB b0 b1) = rT (a0 * b0) (a1 * b1) ∧ rB (rT a0 a1 * rT b0 b1) (rB a0 a1 * rB b0 b1) = rB (a0 * b0) (a1 * b1) := by
  refine red_eq (qq_ne ha hb) (mul_ne ha hb) ?_
  have x := cross (t := a0) ha
  have y := cross (t := b0) hb
  have l : rT a0 a1 * rT b0 b1 * (a1 * b1) = (rT a0 a1 * a1) * (rT b0 b1 * b1) := by ac_rfl
  rw [l, x, y]
  ac_rfl
theorem over_red (h0 : b0 ≠ 0) : rT (rT a0 a1 * rB b0 b1) (rB a0 a1 * rT b0 b1) = rT (a0 * b1) (a1 * b0) ∧ rB (rT a0 a1 * rB b0 b1) (rB a0 a1 * rT b0 b1) = rB (a0 * b1) (a1 * b0) := by
  have p2 : rT b0 b1 ≠ 0 := fun z => h0 ((rT_zero hb).mp z)
  refine red_eq (Int.mul_ne_zero (by have := rB_pos (t := a0) ha; omega) p2) (Int.mul_ne_zero ha h0) ?_
  have x := cross (t := a0) ha
  have y := cross (t := b0) hb
  have l : rT a0 a1 * rB b0 b1 * (a1 * b0) = (rT a0 a1 * a1) * (b0 * rB b0 b1) := by ac_rfl
  rw [l, x, ← y]
  ac_rfl
/-- how the two stand to each other -/
theorem cmp_red : (rT a0 a1 * rB b0 b1 - rT b0 b1 * rB a0 a1) * ((a1 * b1) * (a1 * b1)) = ((a0 * b1 - b0 * a1) * (a1 * b1)) * (rB a0 a1 * rB b0 b1) := by
  have x := cross (t := a0) ha
  have y := cross (t := b0) hb
  have l : (rT a0 a1 * rB b0 b1 - rT b0 b1 * rB a0 a1) * (a1 * b1) = (a0 * b1 - b0 * a1) * (rB a0 a1 * rB b0 b1) := by
    have l : (rT a0 a1 * rB b0 b1 - rT b0 b1 * rB a0 a1) * (a1 * b1) = (rT a0 a1 * a1) * (rB b0 b1 * b1) - (rT b0 b1 * b1) * (rB a0 a1 * a1) := by rw [Int.sub_mul]; congr 1 <;> ac_rfl
    rw [l, x, y, Int.sub_mul]
    congr 1 <;> ac_rfl
  rw [← Int.mul_assoc, l]
  ac_rfl
theorem qq_pos : 0 < rB a0 a1 * rB b0 b1 := Int.mul_pos (rB_pos ha) (rB_pos hb)
theorem sq_pos : 0 < (a1 * b1) * (a1 * b1) := by
  have h := mul_ne ha hb
  rcases Int.lt_or_gt_of_ne h with z | z
  · exact Int.mul_pos_of_neg_of_neg z z
  · exact Int.mul_pos z z
theorem cmp_zero : rT a0 a1 * rB b0 b1 = rT b0 b1 * rB a0 a1 ↔ (a0 * b1 - b0 * a1) * (a1 * b1) = 0 := by
  have e := cmp_red (a0 := a0) (b0 := b0) ha hb
  have p := qq_pos (a0 := a0) (b0 := b0) ha hb
  have s := sq_pos ha hb
  constructor
  · intro z
    rw [z, Int.sub_self, Int.zero_mul] at e
    rcases Int.mul_eq_zero.mp e.symm with q | q
    · exact q
    · omega
  · intro z
    rw [z, Int.zero_mul] at e
    rcases Int.mul_eq_zero.mp e with q | q
    · omega
    · omega
theorem cmp_lt : rT a0 a1 * rB b0 b1 < rT b0 b1 * rB a0 a1 ↔ (a0 * b1 - b0 * a1) * (a1 * b1) < 0 := by
  have e := cmp_red (a0 := a0) (b0 := b0) ha hb
  have p := qq_pos (a0 := a0) (b0 := b0) ha hb
  have s := sq_pos ha hb
  have k : ∀ {x y : Int}, 0 < y → (x * y < 0 ↔ x < 0) := fun {x y} hy => by
    constructor
    · intro h
      rcases Int.lt_or_le x 0 with q | q
      · exact q
      · have := Int.mul_nonneg q (Int.le_of_lt hy); omega
    · intro h; exact Int.mul_neg_of_neg_of_pos h hy
  have z := k (x := rT a0 a1 * rB b0 b1 - rT b0 b1 * rB a0 a1) s
  rw [e, k p] at z
  omega
end
theorem neg_red {a0 a1 : Int} (ha : a1 ≠ 0) : rT (-rT a0 a1) (rB a0 a1) = rT (-a0) a1 ∧ rB (-rT a0 a1) (rB a0 a1) = rB (-a0) a1 := by
  refine red_eq (by have := rB_pos (t := a0) ha; omega) ha ?_
  rw [Int.neg_mul, Int.neg_mul, cross ha]
theorem abs_red {a0 a1 : Int} (ha : a1 ≠ 0) : rT ((rT a0 a1).natAbs : Int) (rB a0 a1) = rT (a0.natAbs : Int) (a1.natAbs : Int) ∧ rB ((rT a0 a1).natAbs : Int) (rB a0 a1) = rB (a0.natAbs : Int) (a1.natAbs : Int) := by
  have q := rB_pos (t := a0) ha
  refine red_eq (by omega) (by omega) ?_
  have e := congrArg Int.natAbs (cross (t := a0) ha)
  rw [Int.natAbs_mul, Int.natAbs_mul] at e
  have z : ((rB a0 a1).natAbs : Int) = rB a0 a1 := by omega
  have e2 := congrArg (fun n : Nat => (n : Int)) e
  simp only [Int.natCast_mul] at e2
  rw [z] at e2
  exact e2
end K1

/-! k05: ratios in sixths. -/
namespace K5
open K1

theorem six_ne : (6 : Int) ≠ 0 := by decide
theorem six_add (a b : Int) : rT (rT a 6 * rB b 6 + rT b 6 * rB a 6) (rB a 6 * rB b 6) = rT (a + b) 6 ∧ rB (rT a 6 * rB b 6 + rT b 6 * rB a 6) (rB a 6 * rB b 6) = rB (a + b) 6 := by
  obtain ⟨x, y⟩ := sum_red (a0 := a) (b0 := b) six_ne six_ne
  obtain ⟨u, v⟩ := red_eq (t := a * 6 + b * 6) (b := 6 * 6) (t' := a + b) (b' := 6) (by decide) six_ne (by omega)
  exact ⟨x.trans u, y.trans v⟩
theorem six_neg (a : Int) : rT (-rT a 6) (rB a 6) = rT (-a) 6 ∧ rB (-rT a 6) (rB a 6) = rB (-a) 6 := neg_red six_ne
theorem six_int (n : Int) : rT (6 * n) 6 = n ∧ rB (6 * n) 6 = 1 := by
  obtain ⟨x, y⟩ := red_eq (t := 6 * n) (b := 6) (t' := n) (b' := 1) six_ne (by decide) (by omega)
  obtain ⟨u, v⟩ := red_one n
  exact ⟨x.trans u, y.trans v⟩
theorem six_cross (a : Int) : rT a 6 * 6 = a * rB a 6 := cross six_ne
theorem six_pos (a : Int) : 0 < rB a 6 := rB_pos six_ne
theorem six_is (a t : Int) : (6 * rT a 6 = t * rB a 6) ↔ a = t := by
  have h := six_cross a
  have p := six_pos a
  constructor
  · intro e
    have z : a * rB a 6 = t * rB a 6 := by omega
    exact Int.eq_of_mul_eq_mul_right (by omega) z
  · rintro rfl
    omega
theorem six_inj (a b : Int) : (rT a 6 = rT b 6 ∧ rB a 6 = rB b 6) ↔ a = b := by
  constructor
  · rintro ⟨x, y⟩
    have h := six_cross a
    have k := six_cross b
    rw [x, y] at h
    have p := six_pos b
    exact Int.eq_of_mul_eq_mul_right (by omega : rB b 6 ≠ 0) (by omega)
  · rintro rfl
    exact ⟨rfl, rfl⟩
theorem six_sign (a : Int) : (rT a 6 = 0 ↔ a = 0) ∧ (rT a 6 > 0 ↔ a > 0) := by
  have h := six_cross a
  have p := six_pos a
  refine ⟨rT_zero six_ne, ?_, ?_⟩
  · intro z
    have q : 0 < a * rB a 6 := by omega
    exact Int.pos_of_mul_pos_left q p
  · intro z
    have q : 0 < a * rB a 6 := Int.mul_pos z p
    omega
theorem six_le (a : Int) : (rT a 6).natAbs ≤ a.natAbs ∧ (rB a 6).natAbs ≤ 6 := ⟨rT_le six_ne, rB_le six_ne⟩
end K5

/-! k05: ratios in sixths as objects; their makings, sums, negatives, ==. -/
namespace K5
open PySem PySem.Spec PyProof.Rows L2 LamX K1 K18

theorem pe_dead {X : Cx} {e : Expr} : PE X e (fun _ _ _ => False) := ⟨fun _ _ _ _ _ _ h => h.elim⟩
theorem pss_dead {X : Cx} {st : List Stmt} : PSs X st (fun _ _ _ => False) := ⟨fun _ _ _ _ _ _ h => h.elim⟩
/-- a class whose instances are tracked -/
structure ClsF (K : PySem.W.Frag) (C : Addr) : Prop where
  cl : Cls K C
  ha : PySem.W.findIn K (.ref C) "__class__" = some (some (.builtin "object.__class__"))
  hn : PySem.W.specialIn K (.builtin "object.__class__") "__get__" = some (some (.builtin "getset_descriptor.__get__"))
  ht : PySem.W.takesIn K (.builtin "object.__class__") = some true
  hm : PySem.W.mroIn K C (.type "object") = some true
  me : PySem.W.kitOne K (.ref C) (.ref C) = some true
theorem ClsF.ty {K : PySem.W.Frag} {C a dx : Addr} {H : Hp} {fs : List (Str × V)} (F : ClsF K C) (h : H a = some (.ins C dx fs)) : TyOf K H (.ref a) (.ref C) := .ins h F.cl F.ha F.hn F.ht F.hm
/-- // of ints by any divisor of less than 9000 bits, below 0 too -/
def CDivZ (_ j : Int) : Prop := j ≠ 0 ∧ j.natAbs.log2 < 9000
theorem op_fdivZ {X : Cx} : OpR X (binaryOp .FloorDiv) (rI CDivZ fun i j => .int (i.fdiv j)) := opI fun i j _ _ _ _ _ hc q => floordiv_int hc.1 q (.inl (PyProof.noPylong_of_log2 hc.2))
theorem decI (a b : Int) : decide (V.int a = V.int b) = decide (a = b) := decide_eq_decide.mpr ⟨fun h => V.int.inj h, fun h => by rw [h]⟩
theorem decS (a b : Str) : decide (V.str a = V.str b) = decide (a = b) := decide_eq_decide.mpr ⟨fun h => V.str.inj h, fun h => by rw [h]⟩
theorem tb_ne : ¬ (("top" : Str) = "bottom") := by decide +kernel
/-- its attributes -/
def fsR (t b : Int) : List (Str × V) := putF "bottom" (.int b) (putF "top" (.int t) [])
theorem fsR_top (t b : Int) : (fsR t b).lookup ("top" : Str) = some (.int t) := by unfold fsR; rw [lookup_putF, if_neg tb_ne, lookup_putF, if_pos rfl]
theorem fsR_bottom (t b : Int) : (fsR t b).lookup ("bottom" : Str) = some (.int b) := by unfold fsR; rw [lookup_putF, if_pos rfl]
/-- at a stands the Ratio of s sixths -/
def Six (C : Addr) (H : Hp) (a : Addr) (s : Int) : Prop := ∃ dx, H a = some (.ins C dx (fsR (rT s 6) (rB s 6)))
theorem Six.same {C : Addr} {H H' : Hp} {a : Addr} {s : Int} (e : Same H H') (h : Six C H a s) : Six C H' a s := let ⟨dx, h⟩ := h; ⟨dx, e _ _ h⟩
/-- .. or the integer -/
def SixV (C : Addr) (H : Hp) (v : V) (s : Int) : Prop := (∃ a, v = .ref a ∧ Six C H a s) ∨ ∃ n, v = .int n ∧ s = 6 * n
theorem SixV.same {C : Addr} {H H' : Hp} {v : V} {s : Int} (e : Same H H') (h : SixV C H v s) : SixV C H' v s := h.imp (fun ⟨a, x, y⟩ => ⟨a, x, y.same e⟩) id
/-- not too great -/
abbrev Sm (s : Int) : Prop := s.natAbs < 2 ^ 60
structure RatF (K : PySem.W.Frag) (C : Addr) : Prop extends ClsF K C where
  nT : NoAttr K C "top"
  nB : NoAttr K C "bottom"
  noI : PySem.W.kitOne K (.ref C) (.type "int") = some false
  int : PySem.W.kitOne K (.type "int") (.ref C) = some false
theorem int_ty {K : PySem.W.Frag} {H : Hp} (n : Int) : TyOf K H (.int n) (.type "int") := .int n
def spRI (C : Addr) : Sp := fun vs H Q _ => ∃ (p dx : Addr) (t b : Int), vs = [.ref p, .int t, .int b] ∧ H p = some (.ins C dx []) ∧ b ≠ 0 ∧ t.natAbs < 2 ^ 100 ∧ b.natAbs < 2 ^ 100 ∧ Q .non (upd H p (.ins C dx (fsR (rT t b) (rB t b))))
section
variable {P : Program} {w : World} {K : PySem.W.Frag} {mg : Str → Option Value} {base : Heap} {f C : Addr} {fd : FuncData} {dv : List V}
theorem okD {x qual : Str} {st : Stmt} {N ps : List Str} {k : Nat} {sp : Sp}
    (F : FunD K x qual (defArgs st) (defBody st) (defScope st) dv [] f fd) (S : FnScope N ps (defScope st)) (len : ∀ vs H Q E, sp vs H Q E → vs.length = ps.length)
    (hb : ∀ (cdv : Value) (A : Around) (outer : List Env) (s : Shared) (H : Hp) (vs : List V) (Q : VK) (E : XK), Room k (A.deeper (envOfC qual (defScope st) s.heap.objs.size f cdv)) → sp vs H Q E →
      ∃ t, PSs (cxOf CX0 P w K mg base N qual (defScope st) f cdv A outer s H E).nox (defBody st) t ∧ t { nx := fun _ H' => Q .non H', rt := Q } (start N vs) H) : FnOk P w K mg base CX0 (k + 1) f fd ps sp :=
  F.ok S len fun cdv A outer s H vs Q E hr h => let ⟨t, h1, h2⟩ := hb cdv A outer s H vs Q E hr h; ⟨t, h1.nox, h2⟩
theorem scRI : FnScope ["self", "top", "bottom", "shared"] ["self", "top", "bottom"] (defScope sRInit) := ⟨rfl, rfl, rfl, by decide +kernel, rfl, by decide +kernel, by decide +kernel⟩
theorem ok_rinit (G : Glob mg) (R : RatF K C) (HI : HasInt P w K mg base) (F : FunD K "__init__" "Ratio.__init__" (defArgs sRInit) (defBody sRInit) (defScope sRInit) dv [] f fd) :
    FnOk P w K mg base CX0 2 f fd ["self", "top", "bottom"] (spRI C) := by
  obtain ⟨fi, fdi, mI, kI, bI, GI⟩ := HI.h
  refine okD F scRI (fun vs H Q E ⟨p, dx, vt, vb, e, _⟩ => by rw [e]; rfl) (fun cdv A outer s H vs Q E hr ⟨p, dx, t, b, e, hp, b0, st, sb, q⟩ => ?_)
  subst e
  refine ⟨_, pss_cons (ps_if (pt_not (pt_val (pe_call GI hr rfl mI kI bI .nil pass0 (pa_cons (pv 1) pa_nil)))) pss_dead pss_nil)
    (pss_cons (ps_if (PW.pt (pw_or (pt_not (pt_val (pe_call GI hr rfl mI kI bI .nil pass0 (pa_cons (pv 2) pa_nil)))) (pw_or1 (pt_cmpR op_eq (pv 2) pe_int (nomark _))))) pss_dead pss_nil)
    (pss_cons (ps_set (i := 3) scRI.nd rfl (Or.inl rfl) (pe_ifExp (pt_cmpR op_gt (pv 2) pe_int (nomark _)) (pe_callBfun cr_gcd (by rfl) G.gcd (pa_cons (pv 1) (pa_cons (pv 2) pa_nil)))
      (pe_un un_neg (pe_callBfun cr_gcd (by rfl) G.gcd (pa_cons (pv 1) (pa_cons (pv 2) pa_nil))))))
    (pss_cons (ps_fld (pv 0) (pe_op op_fdivZ (pv 1) (pv 3)) rfl)
    (pss_one (ps_fld (pv 0) (pe_op op_fdivZ (pv 2) (pv 3)) rfl))))), ?_⟩
  refine ⟨_, rfl, _, rfl, .inr ⟨t, rfl, true, rfl, iteF ?_⟩⟩
  refine ⟨_, rfl, _, rfl, .inr ⟨b, rfl, true, rfl, iteF ?_⟩⟩
  refine ⟨_, rfl, rfl, false, by rw [decI, decide_eq_false b0], iteF ?_⟩
  have dv : ∀ x, CDivZ x (com t b) := fun x => ⟨com_ne b0, by
    have g : (com t b).natAbs ≤ b.natAbs := by rw [com_abs]; exact Nat.gcd_le_right _ (by omega)
    exact Nat.lt_of_lt_of_le (PySem.Flt.log2_lt_of (by decide) (Nat.lt_of_le_of_lt g sb)) (by decide)⟩
  have c1 : ∀ {z : Int}, b > 0 → ((Nat.gcd t.natAbs b.natAbs : Nat) : Int) = z → z = com t b := fun h e => by rw [← e]; unfold com; rw [if_pos h]
  have c2 : ∀ {z : Int}, ¬ b > 0 → -((Nat.gcd t.natAbs b.natAbs : Nat) : Int) = z → z = com t b := fun h e => by rw [← e]; unfold com; rw [if_neg h]
  refine ⟨_, rfl, _, _, rfl, rfl, decide (0 < b), rfl, ?_⟩
  by_cases hb : b > 0
  · rw [decide_eq_true hb]
    refine iteT ⟨_, rfl, _, rfl, t, b, rfl, ?_⟩
    generalize hz : ((Nat.gcd t.natAbs b.natAbs : Nat) : Int) = z
    obtain rfl := c1 hb hz
    refine ⟨_, rfl, _, rfl, _, _, rfl, rfl, dv _, _, rfl, p, C, dx, [], rfl, hp, R.cl, R.nT, (by show 0 < 1000; decide), ?_⟩
    refine ⟨_, rfl, _, rfl, _, _, rfl, rfl, dv _, _, rfl, p, C, dx, _, rfl, upd_same, R.cl, R.nB, (by show 1 < 1000; decide), ?_⟩
    rw [upd_upd]
    exact q
  · rw [decide_eq_false hb]
    refine iteF ⟨_, rfl, _, rfl, t, b, rfl, _, rfl, ?_⟩
    have e : com t b = -((Nat.gcd t.natAbs b.natAbs : Nat) : Int) := (c2 hb rfl).symm
    unfold rT rB at q
    rw [e] at q
    rw [e] at dv
    refine ⟨_, rfl, _, rfl, _, _, rfl, rfl, dv _, _, rfl, p, C, dx, [], rfl, hp, R.cl, R.nT, (by show 0 < 1000; decide), ?_⟩
    refine ⟨_, rfl, _, rfl, _, _, rfl, rfl, dv _, _, rfl, p, C, dx, _, rfl, upd_same, R.cl, R.nB, (by show 1 < 1000; decide), ?_⟩
    rw [upd_upd]
    exact q
end
/-- Ratio(e), Ratio(e, e') -/
structure MkR (P : Program) (w : World) (K : PySem.W.Frag) (mg : Str → Option Value) (base : Heap) (C : Addr) : Prop where
  g : mg "Ratio" = some (.ref C)
  m : ∃ f fd ds, Mk K C f ∧ FnOk P w K mg base CX0 2 f fd ["self", "top", "bottom"] (spRI C) ∧ Binds K fd ["self", "top", "bottom"] [] ∧ Vals [V.int 1] ds ∧ Binds K fd ["self", "top", "bottom"] ds
/-- what is wanted of a new Ratio of s sixths -/
abbrev NewS (C : Addr) (H : Hp) (s : Int) (Q : VK) : Prop := ∀ (p : Addr) (H' : Hp), Same H H' → H p = none → Six C H' p s → Q (.ref p) H'
theorem mk_six {C : Addr} {H : Hp} {t b s : Int} {Q : VK} {E : XK} (b0 : b ≠ 0) (st : t.natAbs < 2 ^ 100) (sb : b.natAbs < 2 ^ 100) (e : rT t b = rT s 6 ∧ rB t b = rB s 6) (q : NewS C H s Q) :
    ∀ x dx, H x = none → H dx = none → dx ≠ x → spRI C [.ref x, .int t, .int b] (upd (upd H dx (.own x)) x (.ins C dx [])) (fun v H2 => v = .non ∧ Q (.ref x) H2) E := fun x dx hx hd ne =>
  ⟨x, dx, _, _, rfl, upd_same, b0, st, sb, rfl, by
    rw [upd_upd, e.1, e.2]
    exact q x _ (fun o u e => by rw [upd_ne (ne_of_none e hx), upd_ne (ne_of_none e hd)]; exact e) hx ⟨dx, upd_same⟩⟩
theorem mk_one {C : Addr} {H : Hp} {n : Int} {Q : VK} {E : XK} (st : n.natAbs < 2 ^ 100) (q : NewS C H (6 * n) Q) :
    ∀ x dx, H x = none → H dx = none → dx ≠ x → spRI C [.ref x, .int n, .int 1] (upd (upd H dx (.own x)) x (.ins C dx [])) (fun v H2 => v = .non ∧ Q (.ref x) H2) E :=
  mk_six (by decide) st (by decide) (by obtain ⟨a, b⟩ := red_one n; obtain ⟨c, d⟩ := six_int n; exact ⟨a.trans c.symm, b.trans d.symm⟩) q
theorem six_b {s : Int} (h : Sm s) : -(2 ^ 60) < rT s 6 ∧ rT s 6 < 2 ^ 60 ∧ 0 < rB s 6 ∧ rB s 6 ≤ 6 := by
  have := six_le s
  have := six_pos s
  refine ⟨?_, ?_, this, ?_⟩ <;> omega
theorem mul_b {x y : Int} (h : -(2 ^ 60) < x ∧ x < 2 ^ 60) (k : 0 < y ∧ y ≤ 6) : (x * y).natAbs < 2 ^ 64 := by
  rw [Int.natAbs_mul]
  have a : x.natAbs ≤ 2 ^ 60 := by omega
  have b : y.natAbs ≤ 6 := by omega
  have := Nat.mul_le_mul a b
  omega
def spRight (C : Addr) : Sp := fun vs H Q _ => ∃ v s, vs = [v] ∧ SixV C H v s ∧ Sm s ∧ ∀ p H', Same H H' → Six C H' p s → Q (.ref p) H'
def spSum (C : Addr) : Sp := fun vs H Q _ => ∃ a v s s2, vs = [.ref a, v] ∧ Six C H a s ∧ SixV C H v s2 ∧ Sm s ∧ Sm s2 ∧ NewS C H (s + s2) Q
def spNeg (C : Addr) : Sp := fun vs H Q _ => ∃ a s, vs = [.ref a] ∧ Six C H a s ∧ Sm s ∧ NewS C H (-s) Q
def spREq (C : Addr) : Sp := fun vs H Q _ => ∃ a b s s2, vs = [.ref a, .ref b] ∧ Six C H a s ∧ Six C H b s2 ∧ Q (.bl (decide (s = s2))) H
def spSign (C : Addr) : Sp := fun vs H Q _ => ∃ a s, vs = [.ref a] ∧ Six C H a s ∧ Q (.int (if s = 0 then 0 else if s > 0 then 1 else -1)) H
def spIsRatio (C : Addr) : Sp := fun vs H Q _ => ∃ v s, vs = [v] ∧ SixV C H v s ∧ Q (.bl true) H
def spAmount (C : Addr) : Sp := fun vs H Q _ => ∃ v s, vs = [v] ∧ SixV C H v s ∧ Sm s ∧ 0 ≤ s ∧ ∀ H', Same H H' → Q (.bl true) H'
section
variable {P : Program} {w : World} {K : PySem.W.Frag} {mg : Str → Option Value} {base : Heap} {f C : Addr} {fd : FuncData}
abbrev HasRight (P : Program) (w : World) (K : PySem.W.Frag) (mg : Str → Option Value) (base : Heap) (C : Addr) : Prop := Has P w K mg base CX0 4 "_right" ["other"] (spRight C)
abbrev HasIsR (P : Program) (w : World) (K : PySem.W.Frag) (mg : Str → Option Value) (base : Heap) (C : Addr) : Prop := Has P w K mg base CX0 2 "is_ratio" ["value"] (spIsRatio C)
theorem scRight : FnScope ["other"] ["other"] (defScope sRight) := ⟨rfl, rfl, rfl, by decide +kernel, rfl, by decide +kernel, by decide +kernel⟩
theorem ok_right (G : Glob mg) (R : RatF K C) (HI : HasInt P w K mg base) (MR : MkR P w K mg base C) (F : DefAt K "_right" "_right" sRight f fd) : FnOk P w K mg base CX0 4 f fd ["other"] (spRight C) := by
  obtain ⟨fi, fdi, mI, kI, bI, GI⟩ := HI.h
  obtain ⟨fm, fdm, ds, M, GM, _, hv, bM⟩ := MR.m
  refine okN F scRight (fun vs H Q E ⟨v, s, e, _⟩ => by rw [e]; rfl) (fun cdv A outer s H vs Q E hr ⟨v, n, e, h, sm, q⟩ => ?_)
  subst e
  refine ⟨_, pss_cons (ps_if (pt_val (pe_callB call_isi (by rfl) G.isi (by decide +kernel) (pa_cons (pv 0) (pa_cons (pe_glob (v := .ref C) rfl MR.g rfl) pa_nil)))) (pss_one (ps_ret (pv 0))) pss_nil)
    (pss_cons (ps_if (pt_not (pt_val (pe_call GI (hr.mono (by decide)) rfl mI kI bI .nil pass0 (pa_cons (pv 0) pa_nil)))) pss_dead pss_nil)
    (pss_one (ps_ret (pe_make M GM hr rfl MR.g bM hv pass0 (pa_cons (pv 0) pa_nil))))), ?_⟩
  rcases h with ⟨a, rfl, ha⟩ | ⟨n, rfl, rfl⟩
  · obtain ⟨dx, h1⟩ := id ha
    exact ⟨_, rfl, _, _, _, _, _, rfl, .own C, .base (R.ty h1), R.me, true, rfl, iteT ⟨_, rfl, q a H (Same.refl H) ha⟩⟩
  · refine ⟨_, rfl, _, _, _, _, _, rfl, .own C, .base (.int n), R.int, false, rfl, iteF ?_⟩
    refine ⟨_, rfl, _, rfl, .inr ⟨n, rfl, true, rfl, iteF ?_⟩⟩
    exact ⟨_, rfl, mk_one (by omega) fun p H' s _ hp => q p H' s hp⟩
theorem scAdd : FnScope ["self", "other", "right"] ["self", "other"] (defScope sRAdd) := ⟨rfl, rfl, rfl, by decide +kernel, rfl, by decide +kernel, by decide +kernel⟩
theorem ok_add (R : RatF K C) (HR : HasRight P w K mg base C) (MR : MkR P w K mg base C) (F : DefAt K "__add__" "Ratio.__add__" sRAdd f fd) : FnOk P w K mg base CX0 5 f fd ["self", "other"] (spSum C) := by
  obtain ⟨fr, fdr, mR, kR, bR, GR⟩ := HR.h
  obtain ⟨fm, fdm, ds, M, GM, bM, _, _⟩ := MR.m
  refine okN F scAdd (fun vs H Q E ⟨a, v, s, s2, e, _⟩ => by rw [e]; rfl) (fun cdv A outer s H vs Q E hr ⟨a, v, n, n2, e, ha, hv, sm, sm2, q⟩ => ?_)
  subst e
  refine ⟨_, pss_cons (ps_set (i := 2) scAdd.nd rfl (Or.inl rfl) (pe_call GR hr rfl mR kR bR .nil pass0 (pa_cons (pv 1) pa_nil)))
    (pss_one (ps_ret (pe_make M GM (hr.mono (by decide)) rfl MR.g bM .nil pass0 (pa_cons (pe_op op_add (pe_op op_mul (pe_fld (pv 0) rfl) (pe_fld (pv 2) rfl)) (pe_op op_mul (pe_fld (pv 2) rfl) (pe_fld (pv 0) rfl))) (pa_cons (pe_op op_mul (pe_fld (pv 0) rfl) (pe_fld (pv 2) rfl)) pa_nil))))), ?_⟩
  refine ⟨_, rfl, _, n2, rfl, hv, sm2, fun p H1 s1 hp => ?_⟩
  obtain ⟨dx, h1⟩ := ha.same s1
  obtain ⟨dy, h2⟩ := hp
  obtain ⟨x0, x1, x2, x3⟩ := six_b sm
  obtain ⟨y0, y1, y2, y3⟩ := six_b sm2
  have m1 := mul_b ⟨x0, x1⟩ ⟨y2, y3⟩
  have m2 := mul_b ⟨y0, y1⟩ ⟨x2, x3⟩
  have m3 := mul_b (x := rB n 6) (y := rB n2 6) ⟨by omega, by omega⟩ ⟨y2, y3⟩
  refine ⟨_, rfl, a, C, dx, _, _, rfl, h1, R.cl, R.nT, fsR_top _ _, _, rfl, p, C, dy, _, _, rfl, h2, R.cl, R.nB, fsR_bottom _ _, _, _, rfl, rfl, .inl ⟨by omega, by omega⟩, ?_⟩
  refine ⟨_, rfl, p, C, dy, _, _, rfl, h2, R.cl, R.nT, fsR_top _ _, _, rfl, a, C, dx, _, _, rfl, h1, R.cl, R.nB, fsR_bottom _ _, _, _, rfl, rfl, .inl ⟨by omega, by omega⟩, _, _, rfl, rfl, ?_⟩
  refine ⟨_, rfl, a, C, dx, _, _, rfl, h1, R.cl, R.nB, fsR_bottom _ _, _, rfl, p, C, dy, _, _, rfl, h2, R.cl, R.nB, fsR_bottom _ _, _, _, rfl, rfl, .inl ⟨by omega, by omega⟩, ?_⟩
  refine mk_six (Int.mul_ne_zero (by omega) (by omega)) (by omega) (by omega) (six_add n n2) fun p' H' s' np h' => q p' H' (s1.trans s') (s1.free np) h'
theorem scNeg : FnScope ["self"] ["self"] (defScope sRNeg) := ⟨rfl, rfl, rfl, by decide +kernel, rfl, by decide +kernel, by decide +kernel⟩
theorem ok_neg (R : RatF K C) (MR : MkR P w K mg base C) (F : DefAt K "__neg__" "Ratio.__neg__" sRNeg f fd) : FnOk P w K mg base CX0 4 f fd ["self"] (spNeg C) := by
  obtain ⟨fm, fdm, ds, M, GM, bM, _, _⟩ := MR.m
  refine okN F scNeg (fun vs H Q E ⟨a, s, e, _⟩ => by rw [e]; rfl) (fun cdv A outer s H vs Q E hr ⟨a, n, e, ha, sm, q⟩ => ?_)
  subst e
  refine ⟨_, pss_one (ps_ret (pe_make M GM hr rfl MR.g bM .nil pass0 (pa_cons (pe_un un_neg (pe_fld (pv 0) rfl)) (pa_cons (pe_fld (pv 0) rfl) pa_nil)))), ?_⟩
  obtain ⟨dx, h1⟩ := ha
  obtain ⟨x0, x1, x2, x3⟩ := six_b sm
  refine ⟨_, rfl, a, C, dx, _, _, rfl, h1, R.cl, R.nT, fsR_top _ _, _, rfl, _, rfl, a, C, dx, _, _, rfl, h1, R.cl, R.nB, fsR_bottom _ _, ?_⟩
  exact mk_six (by omega) (by omega) (by omega) (six_neg n) q
theorem scREq : FnScope ["self", "other"] ["self", "other"] (defScope sREq) := ⟨rfl, rfl, rfl, by decide +kernel, rfl, by decide +kernel, by decide +kernel⟩
theorem ok_req (G : Glob mg) (R : RatF K C) (gR : mg "Ratio" = some (.ref C)) (F : DefAt K "__eq__" "Ratio.__eq__" sREq f fd) : FnOk P w K mg base CX0 1 f fd ["self", "other"] (spREq C) := by
  refine okN F scREq (fun vs H Q E ⟨a, b, s, s2, e, _⟩ => by rw [e]; rfl) (fun cdv A outer s H vs Q E hr ⟨a, b, n, n2, e, ha, hb, q⟩ => ?_)
  subst e
  obtain ⟨dx, h1⟩ := ha
  obtain ⟨dy, h2⟩ := hb
  refine ⟨_, pss_cons (ps_if (pt_val (pe_callB call_isi (by rfl) G.isi (by decide +kernel) (pa_cons (pv 1) (pa_cons (pe_glob (v := .ref C) rfl gR rfl) pa_nil))))
      (pss_one (ps_ret (pe_and (pe_cmpR op_eq (pe_fld (pv 0) rfl) (pe_fld (pv 1) rfl) (nomark _)) (pe_one (pe_cmpR op_eq (pe_fld (pv 0) rfl) (pe_fld (pv 1) rfl) (nomark _)))))) pss_nil)
    (pss_one (ps_ret pe_dead)), ?_⟩
  refine ⟨_, rfl, _, _, _, _, _, rfl, .own C, .base (R.ty h2), R.me, true, rfl, iteT ?_⟩
  refine ⟨_, rfl, a, C, dx, _, _, rfl, h1, R.cl, R.nT, fsR_top _ _, _, rfl, b, C, dy, _, _, rfl, h2, R.cl, R.nT, fsR_top _ _, rfl, _, rfl, ?_⟩
  rw [decI]
  have i := six_inj n n2
  by_cases e : rT n 6 = rT n2 6
  · rw [decide_eq_true e]
    refine iteT ⟨_, rfl, a, C, dx, _, _, rfl, h1, R.cl, R.nB, fsR_bottom _ _, _, rfl, b, C, dy, _, _, rfl, h2, R.cl, R.nB, fsR_bottom _ _, rfl, ?_⟩
    rw [decI, decide_eq_decide.mpr (show rB n 6 = rB n2 6 ↔ n = n2 from ⟨fun z => i.mp ⟨e, z⟩, fun z => (i.mpr z).2⟩)]
    exact q
  · rw [decide_eq_false e]
    rw [decide_eq_false (show ¬ n = n2 from fun z => e (i.mpr z).1)] at q
    exact iteF q
theorem scSign : FnScope ["self"] ["self"] (defScope sRSign) := ⟨rfl, rfl, rfl, by decide +kernel, rfl, by decide +kernel, by decide +kernel⟩
theorem ok_sign (R : RatF K C) (F : DefAt K "sign" "Ratio.sign" sRSign f fd) : FnOk P w K mg base CX0 1 f fd ["self"] (spSign C) := by
  refine okN F scSign (fun vs H Q E ⟨a, s, e, _⟩ => by rw [e]; rfl) (fun cdv A outer s H vs Q E hr ⟨a, n, e, ha, q⟩ => ?_)
  subst e
  obtain ⟨dx, h1⟩ := ha
  refine ⟨_, pss_cons (ps_if (pt_cmpR op_eq (pe_fld (pv 0) rfl) pe_int (nomark _)) (pss_one (ps_ret pe_int)) pss_nil)
    (pss_one (ps_ret (pe_ifExp (pt_cmpR op_gt (pe_fld (pv 0) rfl) pe_int (nomark _)) pe_int (pe_un un_neg pe_int)))), ?_⟩
  refine ⟨_, rfl, a, C, dx, _, _, rfl, h1, R.cl, R.nT, fsR_top _ _, rfl, _, rfl, ?_⟩
  obtain ⟨z1, z2⟩ := six_sign n
  by_cases e : rT n 6 = 0
  · rw [decI, decide_eq_true e]
    rw [if_pos (z1.mp e)] at q
    exact iteT q
  · rw [decI, decide_eq_false e]
    rw [if_neg fun z => e (z1.mpr z)] at q
    refine iteF ⟨_, rfl, a, C, dx, _, _, rfl, h1, R.cl, R.nT, fsR_top _ _, _, _, rfl, rfl, decide (0 < rT n 6), rfl, ?_⟩
    by_cases l : rT n 6 > 0
    · rw [decide_eq_true l]
      rw [if_pos (z2.mp l)] at q
      exact iteT q
    · rw [decide_eq_false l]
      rw [if_neg fun z => l (z2.mpr z)] at q
      exact iteF ⟨_, rfl, q⟩
theorem scIsR : FnScope ["value"] ["value"] (defScope sIsRatio) := ⟨rfl, rfl, rfl, by decide +kernel, rfl, by decide +kernel, by decide +kernel⟩
theorem ok_isR (G : Glob mg) (R : RatF K C) (HI : HasInt P w K mg base) (gR : mg "Ratio" = some (.ref C)) (F : DefAt K "is_ratio" "is_ratio" sIsRatio f fd) : FnOk P w K mg base CX0 2 f fd ["value"] (spIsRatio C) := by
  obtain ⟨fi, fdi, mI, kI, bI, GI⟩ := HI.h
  refine okN F scIsR (fun vs H Q E ⟨v, s, e, _⟩ => by rw [e]; rfl) (fun cdv A outer s H vs Q E hr ⟨v, n, e, h, q⟩ => ?_)
  subst e
  refine ⟨_, pss_one (ps_ret (pe_or (pe_callB call_isi (by rfl) G.isi (by decide +kernel) (pa_cons (pv 0) (pa_cons (pe_glob (v := .ref C) rfl gR rfl) pa_nil)))
    (pe_one (pe_call GI hr rfl mI kI bI .nil pass0 (pa_cons (pv 0) pa_nil))))), ?_⟩
  rcases h with ⟨a, rfl, dx, ha⟩ | ⟨n, rfl, rfl⟩
  · exact ⟨_, rfl, _, _, _, _, _, rfl, .own C, .base (R.ty ha), R.me, true, rfl, iteT q⟩
  · exact ⟨_, rfl, _, _, _, _, _, rfl, .own C, .base (.int n), R.int, false, rfl, iteF ⟨_, rfl, _, rfl, .inr ⟨n, rfl, q⟩⟩⟩
theorem scOf : FnScope ["value"] ["value"] (defScope sROf) := ⟨rfl, rfl, rfl, by decide +kernel, rfl, by decide +kernel, by decide +kernel⟩
theorem ok_of (HR : HasRight P w K mg base C) (HQ : HasIsR P w K mg base C) (F : DefAt K "of" "Ratio.of" sROf f fd) : FnOk P w K mg base CX0 5 f fd ["value"] (spRight C) := by
  obtain ⟨fr, fdr, mR, kR, bR, GR⟩ := HR.h
  obtain ⟨fq, fdq, mQ, kQ, bQ, GQ⟩ := HQ.h
  refine okN F scOf (fun vs H Q E ⟨v, s, e, _⟩ => by rw [e]; rfl) (fun cdv A outer s H vs Q E hr ⟨v, n, e, h, sm, q⟩ => ?_)
  subst e
  refine ⟨_, pss_cons (ps_if (pt_not (pt_val (pe_call GQ (hr.mono (by decide)) rfl mQ kQ bQ .nil pass0 (pa_cons (pv 0) pa_nil)))) pss_dead pss_nil)
    (pss_one (ps_ret (pe_call GR hr rfl mR kR bR .nil pass0 (pa_cons (pv 0) pa_nil)))), ?_⟩
  exact ⟨_, rfl, v, n, rfl, h, true, rfl, iteF ⟨_, rfl, v, n, rfl, h, sm, q⟩⟩
/-- Ratio.of, x.sign -/
structure RatM (P : Program) (w : World) (K : PySem.W.Frag) (mg : Str → Option Value) (base : Heap) (C : Addr) : Prop where
  g : mg "Ratio" = some (.ref C)
  r : ClX.CRead K C (.type "type")
  of : ∃ f fd, SMet K C "of" f ∧ Binds K fd ["value"] [] ∧ FnOk P w K mg base CX0 5 f fd ["value"] (spRight C)
  sign : ∃ p f fd, PropOf K C "sign" p f ∧ Binds K fd ["self"] [] ∧ FnOk P w K mg base CX0 1 f fd ["self"] (spSign C)
theorem scAmount : FnScope ["value"] ["value"] (defScope sIsAmount) := ⟨rfl, rfl, rfl, by decide +kernel, rfl, by decide +kernel, by decide +kernel⟩
theorem ok_amount (R : RatF K C) (HQ : HasIsR P w K mg base C) (RM : RatM P w K mg base C) (F : DefAt K "is_amount" "is_amount" sIsAmount f fd) : FnOk P w K mg base CX0 6 f fd ["value"] (spAmount C) := by
  obtain ⟨fq, fdq, mQ, kQ, bQ, GQ⟩ := HQ.h
  obtain ⟨fo, fdo, MO, bO, GO⟩ := RM.of
  obtain ⟨ps, fs, fds, PS_, bS, GS⟩ := RM.sign
  refine okN F scAmount (fun vs H Q E ⟨v, s, e, _⟩ => by rw [e]; rfl) (fun cdv A outer s H vs Q E hr ⟨v, n, e, h, sm, n0, q⟩ => ?_)
  subst e
  refine ⟨_, pss_one (ps_ret (pe_and (pe_call GQ (hr.mono (by decide)) rfl mQ kQ bQ .nil pass0 (pa_cons (pv 0) pa_nil))
    (pe_one (pe_cmpR op_ge (pe_prop (pe_smeth (pe_glob (v := .ref C) rfl RM.g rfl) RM.r MO GO hr bO pass0 (pa_cons (pv 0) pa_nil)) R.cl PS_ GS (hr.mono (by decide)) bS .nil pass0 rfl) pe_int (nomark _))))), ?_⟩
  refine ⟨_, rfl, v, n, rfl, h, true, rfl, iteT ?_⟩
  refine ⟨rfl, _, rfl, v, n, rfl, h, sm, fun p H' s' hp => ?_⟩
  obtain ⟨dx, h1⟩ := id hp
  refine ⟨p, dx, _, rfl, h1, p, n, rfl, hp, _, _, rfl, rfl, ?_⟩
  show Q (.bl (decide ((0 : Int) ≤ if n = 0 then 0 else if n > 0 then 1 else -1))) H'
  rw [decide_eq_true (show (0 : Int) ≤ if n = 0 then 0 else if n > 0 then 1 else -1 by split <;> (try split) <;> omega)]
  exact q H' s'
end
end K5

/-! k44: ratios n/d of any d. -/
namespace K5
open PySem PySem.Spec PyProof.Rows L2 LamX K1 K18

/-- at a stands the Ratio n/d -/
def Frc (C : Addr) (H : Hp) (a : Addr) (n d : Int) : Prop := ∃ dx, H a = some (.ins C dx (fsR (rT n d) (rB n d)))
theorem Frc.same {C : Addr} {H H' : Hp} {a : Addr} {n d : Int} (e : Same H H') (h : Frc C H a n d) : Frc C H' a n d := let ⟨dx, h⟩ := h; ⟨dx, e _ _ h⟩
theorem Six.frc {C : Addr} {H : Hp} {a : Addr} {s : Int} (h : Six C H a s) : Frc C H a s 6 := h
/-- .. or the integer -/
def FrcV (C : Addr) (H : Hp) (v : V) (n d : Int) : Prop := (∃ a, v = .ref a ∧ Frc C H a n d) ∨ (v = .int n ∧ d = 1)
structure SmF (n d : Int) : Prop where
  n : n.natAbs < 2 ^ 45
  d0 : 0 < d
  d1 : d < 2 ^ 20
theorem SmF.b {n d : Int} (h : SmF n d) : (rT n d).natAbs < 2 ^ 45 ∧ 0 < rB n d ∧ rB n d < 2 ^ 20 := by
  have ne : d ≠ 0 := by have := h.d0; omega
  have z1 := rT_le (t := n) ne
  have z2 := rB_le (t := n) ne
  have z3 := rB_pos (t := n) ne
  have h1 := h.n; have h2 := h.d0; have h3 := h.d1
  exact ⟨by omega, z3, by omega⟩
abbrev NewF (C : Addr) (H : Hp) (n d : Int) (Q : VK) : Prop := ∀ (p : Addr) (H' : Hp), Same H H' → H p = none → Frc C H' p n d → Q (.ref p) H'
theorem mk_frc {C : Addr} {H : Hp} {t b n d : Int} {Q : VK} {E : XK} (b0 : b ≠ 0) (st : t.natAbs < 2 ^ 100) (sb : b.natAbs < 2 ^ 100) (e : rT t b = rT n d ∧ rB t b = rB n d) (q : NewF C H n d Q) :
    ∀ x dx, H x = none → H dx = none → dx ≠ x → spRI C [.ref x, .int t, .int b] (upd (upd H dx (.own x)) x (.ins C dx [])) (fun v H2 => v = .non ∧ Q (.ref x) H2) E := fun x dx hx hd ne =>
  ⟨x, dx, _, _, rfl, upd_same, b0, st, sb, rfl, by
    rw [upd_upd, e.1, e.2]
    exact q x _ (fun o u e => by rw [upd_ne (ne_of_none e hx), upd_ne (ne_of_none e hd)]; exact e) hx ⟨dx, upd_same⟩⟩
def spRightF (C : Addr) : Sp := fun vs H Q _ => ∃ v n d, vs = [v] ∧ FrcV C H v n d ∧ SmF n d ∧ ∀ p H', Same H H' → Frc C H' p n d → Q (.ref p) H'
def spMulF (C : Addr) : Sp := fun vs H Q _ => ∃ a v n d n2 d2, vs = [.ref a, v] ∧ Frc C H a n d ∧ FrcV C H v n2 d2 ∧ SmF n d ∧ SmF n2 d2 ∧ NewF C H (n * n2) (d * d2) Q
section
variable {P : Program} {w : World} {K : PySem.W.Frag} {mg : Str → Option Value} {base : Heap} {f C : Addr} {fd : FuncData}
abbrev HasRightF (P : Program) (w : World) (K : PySem.W.Frag) (mg : Str → Option Value) (base : Heap) (C : Addr) : Prop := Has P w K mg base CX0 4 "_right" ["other"] (spRightF C)
theorem ok_rightF (G : Glob mg) (R : RatF K C) (HI : HasInt P w K mg base) (MR : MkR P w K mg base C) (F : DefAt K "_right" "_right" sRight f fd) : FnOk P w K mg base CX0 4 f fd ["other"] (spRightF C) := by
  obtain ⟨fi, fdi, mI, kI, bI, GI⟩ := HI.h
  obtain ⟨fm, fdm, ds, M, GM, _, hv, bM⟩ := MR.m
  refine okN F scRight (fun vs H Q E ⟨v, n, d, e, _⟩ => by rw [e]; rfl) (fun cdv A outer s H vs Q E hr ⟨v, n, d, e, h, sm, q⟩ => ?_)
  subst e
  refine ⟨_, pss_cons (ps_if (pt_val (pe_callB call_isi (by rfl) G.isi (by decide +kernel) (pa_cons (pv 0) (pa_cons (pe_glob (v := .ref C) rfl MR.g rfl) pa_nil)))) (pss_one (ps_ret (pv 0))) pss_nil)
    (pss_cons (ps_if (pt_not (pt_val (pe_call GI (hr.mono (by decide)) rfl mI kI bI .nil pass0 (pa_cons (pv 0) pa_nil)))) pss_dead pss_nil)
    (pss_one (ps_ret (pe_make M GM hr rfl MR.g bM hv pass0 (pa_cons (pv 0) pa_nil))))), ?_⟩
  rcases h with ⟨a, rfl, ha⟩ | ⟨rfl, rfl⟩
  · obtain ⟨dx, h1⟩ := id ha
    exact ⟨_, rfl, _, _, _, _, _, rfl, .own C, .base (R.ty h1), R.me, true, rfl, iteT ⟨_, rfl, q a H (Same.refl H) ha⟩⟩
  · refine ⟨_, rfl, _, _, _, _, _, rfl, .own C, .base (.int n), R.int, false, rfl, iteF ?_⟩
    refine ⟨_, rfl, _, rfl, .inr ⟨n, rfl, true, rfl, iteF ?_⟩⟩
    have h1 := sm.n
    exact ⟨_, rfl, mk_frc (n := n) (d := 1) (by decide) (by omega) (by decide) ⟨rfl, rfl⟩ fun p H' s _ hp => q p H' s hp⟩
theorem scMulF : FnScope ["self", "other", "right"] ["self", "other"] (defScope sRMul) := ⟨rfl, rfl, rfl, by decide +kernel, rfl, by decide +kernel, by decide +kernel⟩
theorem ok_mulF (R : RatF K C) (HR : HasRightF P w K mg base C) (MR : MkR P w K mg base C) (F : DefAt K "__mul__" "Ratio.__mul__" sRMul f fd) : FnOk P w K mg base CX0 5 f fd ["self", "other"] (spMulF C) := by
  obtain ⟨fr, fdr, mR, kR, bR, GR⟩ := HR.h
  obtain ⟨fm, fdm, ds, M, GM, bM, _, _⟩ := MR.m
  refine okN F scMulF (fun vs H Q E ⟨a, v, n, d, n2, d2, e, _⟩ => by rw [e]; rfl) (fun cdv A outer s H vs Q E hr ⟨a, v, n, d, n2, d2, e, ha, hv, sm, sm2, q⟩ => ?_)
  subst e
  refine ⟨_, pss_cons (ps_set (i := 2) scMulF.nd rfl (Or.inl rfl) (pe_call GR hr rfl mR kR bR .nil pass0 (pa_cons (pv 1) pa_nil)))
    (pss_one (ps_ret (pe_make M GM (hr.mono (by decide)) rfl MR.g bM .nil pass0 (pa_cons (pe_op op_mul (pe_fld (pv 0) rfl) (pe_fld (pv 2) rfl)) (pa_cons (pe_op op_mul (pe_fld (pv 0) rfl) (pe_fld (pv 2) rfl)) pa_nil))))), ?_⟩
  refine ⟨_, rfl, _, n2, d2, rfl, hv, sm2, fun p H1 s1 hp => ?_⟩
  obtain ⟨dx, h1⟩ := ha.same s1
  obtain ⟨dy, h2⟩ := hp
  obtain ⟨x0, x1, x2⟩ := sm.b
  obtain ⟨y0, y1, y2⟩ := sm2.b
  refine ⟨_, rfl, a, C, dx, _, _, rfl, h1, R.cl, R.nT, fsR_top _ _, _, rfl, p, C, dy, _, _, rfl, h2, R.cl, R.nT, fsR_top _ _, _, _, rfl, rfl, .inl ⟨by omega, by omega⟩, ?_⟩
  refine ⟨_, rfl, a, C, dx, _, _, rfl, h1, R.cl, R.nB, fsR_bottom _ _, _, rfl, p, C, dy, _, _, rfl, h2, R.cl, R.nB, fsR_bottom _ _, _, _, rfl, rfl, .inl ⟨by omega, by omega⟩, ?_⟩
  have m1 : (rT n d * rT n2 d2).natAbs < 2 ^ 100 := by
    rw [Int.natAbs_mul]
    exact Nat.lt_of_le_of_lt (Nat.mul_le_mul (Nat.le_of_lt x0) (Nat.le_of_lt y0)) (by decide)
  have m2 : (rB n d * rB n2 d2).natAbs < 2 ^ 100 := by
    rw [Int.natAbs_mul]
    exact Nat.lt_of_le_of_lt (Nat.mul_le_mul (show (rB n d).natAbs ≤ 2 ^ 20 by omega) (show (rB n2 d2).natAbs ≤ 2 ^ 20 by omega)) (by decide)
  refine mk_frc (Int.mul_ne_zero (by omega) (by omega)) m1 m2 (mul_red (by have := sm.d0; omega) (by have := sm2.d0; omega)) fun p' H' s' np h' => q p' H' (s1.trans s') (s1.free np) h'
end
end K5

/-! k44: ratios n/d: minus, over. -/
namespace K5
open PySem PySem.Spec PyProof.Rows L2 LamX K1 K18

def spSubF (C : Addr) : Sp := fun vs H Q _ => ∃ a v n d n2 d2, vs = [.ref a, v] ∧ Frc C H a n d ∧ FrcV C H v n2 d2 ∧ SmF n d ∧ SmF n2 d2 ∧ NewF C H (n * d2 - n2 * d) (d * d2) Q
def spOverF (C : Addr) : Sp := fun vs H Q _ => ∃ a v n d n2 d2, vs = [.ref a, v] ∧ Frc C H a n d ∧ FrcV C H v n2 d2 ∧ SmF n d ∧ SmF n2 d2 ∧ 0 < n2 ∧ NewF C H (n * d2) (d * n2) Q
theorem small_mul {x y : Int} {a b : Nat} (hx : x.natAbs < 2 ^ a) (hy : y.natAbs < 2 ^ b) (h : a + b ≤ 98) : (x * y).natAbs ≤ 2 ^ 98 := by
  rw [Int.natAbs_mul]
  refine Nat.le_trans (Nat.mul_le_mul (Nat.le_of_lt hx) (Nat.le_of_lt hy)) ?_
  rw [← Nat.pow_add]
  exact Nat.pow_le_pow_right (by decide) h
section
variable {P : Program} {w : World} {K : PySem.W.Frag} {mg : Str → Option Value} {base : Heap} {f C : Addr} {fd : FuncData}
theorem scSubF : FnScope ["self", "other", "right"] ["self", "other"] (defScope sRSub) := ⟨rfl, rfl, rfl, by decide +kernel, rfl, by decide +kernel, by decide +kernel⟩
theorem ok_subF (R : RatF K C) (HR : HasRightF P w K mg base C) (MR : MkR P w K mg base C) (F : DefAt K "__sub__" "Ratio.__sub__" sRSub f fd) : FnOk P w K mg base CX0 5 f fd ["self", "other"] (spSubF C) := by
  obtain ⟨fr, fdr, mR, kR, bR, GR⟩ := HR.h
  obtain ⟨fm, fdm, ds, M, GM, bM, _, _⟩ := MR.m
  refine okN F scSubF (fun vs H Q E ⟨a, v, n, d, n2, d2, e, _⟩ => by rw [e]; rfl) (fun cdv A outer s H vs Q E hr ⟨a, v, n, d, n2, d2, e, ha, hv, sm, sm2, q⟩ => ?_)
  subst e
  refine ⟨_, pss_cons (ps_set (i := 2) scSubF.nd rfl (Or.inl rfl) (pe_call GR hr rfl mR kR bR .nil pass0 (pa_cons (pv 1) pa_nil)))
    (pss_one (ps_ret (pe_make M GM (hr.mono (by decide)) rfl MR.g bM .nil pass0 (pa_cons (pe_op op_sub (pe_op op_mul (pe_fld (pv 0) rfl) (pe_fld (pv 2) rfl)) (pe_op op_mul (pe_fld (pv 2) rfl) (pe_fld (pv 0) rfl))) (pa_cons (pe_op op_mul (pe_fld (pv 0) rfl) (pe_fld (pv 2) rfl)) pa_nil))))), ?_⟩
  refine ⟨_, rfl, _, n2, d2, rfl, hv, sm2, fun p H1 s1 hp => ?_⟩
  obtain ⟨dx, h1⟩ := ha.same s1
  obtain ⟨dy, h2⟩ := hp
  obtain ⟨x0, x1, x2⟩ := sm.b
  obtain ⟨y0, y1, y2⟩ := sm2.b
  have bd : (rB n d).natAbs < 2 ^ 20 := by omega
  have bd2 : (rB n2 d2).natAbs < 2 ^ 20 := by omega
  have m1 := small_mul x0 bd2 (by decide)
  have m2 := small_mul y0 bd (by decide)
  have m3 := small_mul bd bd2 (by decide)
  refine ⟨_, rfl, a, C, dx, _, _, rfl, h1, R.cl, R.nT, fsR_top _ _, _, rfl, p, C, dy, _, _, rfl, h2, R.cl, R.nB, fsR_bottom _ _, _, _, rfl, rfl, .inl ⟨by omega, by omega⟩, ?_⟩
  refine ⟨_, rfl, p, C, dy, _, _, rfl, h2, R.cl, R.nT, fsR_top _ _, _, rfl, a, C, dx, _, _, rfl, h1, R.cl, R.nB, fsR_bottom _ _, _, _, rfl, rfl, .inl ⟨by omega, by omega⟩, _, _, rfl, rfl, ?_⟩
  refine ⟨_, rfl, a, C, dx, _, _, rfl, h1, R.cl, R.nB, fsR_bottom _ _, _, rfl, p, C, dy, _, _, rfl, h2, R.cl, R.nB, fsR_bottom _ _, _, _, rfl, rfl, .inl ⟨by omega, by omega⟩, ?_⟩
  refine mk_frc (Int.mul_ne_zero (by omega) (by omega)) (by omega) (by omega) (dif_red (by have := sm.d0; omega) (by have := sm2.d0; omega)) fun p' H' s' np h' => q p' H' (s1.trans s') (s1.free np) h'
theorem scOverF : FnScope ["self", "other", "right"] ["self", "other"] (defScope sROver) := ⟨rfl, rfl, rfl, by decide +kernel, rfl, by decide +kernel, by decide +kernel⟩
theorem ok_overF (R : RatF K C) (HR : HasRightF P w K mg base C) (MR : MkR P w K mg base C) (F : DefAt K "over" "Ratio.over" sROver f fd) : FnOk P w K mg base CX0 5 f fd ["self", "other"] (spOverF C) := by
  obtain ⟨fr, fdr, mR, kR, bR, GR⟩ := HR.h
  obtain ⟨fm, fdm, ds, M, GM, bM, _, _⟩ := MR.m
  refine okN F scOverF (fun vs H Q E ⟨a, v, n, d, n2, d2, e, _⟩ => by rw [e]; rfl) (fun cdv A outer s H vs Q E hr ⟨a, v, n, d, n2, d2, e, ha, hv, sm, sm2, n0, q⟩ => ?_)
  subst e
  refine ⟨_, pss_cons (ps_set (i := 2) scOverF.nd rfl (Or.inl rfl) (pe_call GR hr rfl mR kR bR .nil pass0 (pa_cons (pv 1) pa_nil)))
    (pss_cons (ps_if (pt_cmpR op_eq (pe_fld (pv 2) rfl) pe_int (nomark _)) pss_dead pss_nil)
    (pss_one (ps_ret (pe_make M GM (hr.mono (by decide)) rfl MR.g bM .nil pass0 (pa_cons (pe_op op_mul (pe_fld (pv 0) rfl) (pe_fld (pv 2) rfl)) (pa_cons (pe_op op_mul (pe_fld (pv 0) rfl) (pe_fld (pv 2) rfl)) pa_nil)))))), ?_⟩
  refine ⟨_, rfl, _, n2, d2, rfl, hv, sm2, fun p H1 s1 hp => ?_⟩
  obtain ⟨dx, h1⟩ := ha.same s1
  obtain ⟨dy, h2⟩ := hp
  obtain ⟨x0, x1, x2⟩ := sm.b
  obtain ⟨y0, y1, y2⟩ := sm2.b
  have ne2 : d2 ≠ 0 := by have := sm2.d0; omega
  have tz : rT n2 d2 ≠ 0 := fun z => by have := (rT_zero ne2).mp z; omega
  have bd : (rB n d).natAbs < 2 ^ 20 := by omega
  have bd2 : (rB n2 d2).natAbs < 2 ^ 20 := by omega
  have m1 := small_mul x0 bd2 (by decide)
  have m2 := small_mul bd y0 (by decide)
  refine ⟨_, rfl, p, C, dy, _, _, rfl, h2, R.cl, R.nT, fsR_top _ _, rfl, false, congrArg V.bl (decide_eq_false fun e => tz (V.int.inj e)), iteF ?_⟩
  refine ⟨_, rfl, a, C, dx, _, _, rfl, h1, R.cl, R.nT, fsR_top _ _, _, rfl, p, C, dy, _, _, rfl, h2, R.cl, R.nB, fsR_bottom _ _, _, _, rfl, rfl, .inl ⟨by omega, by omega⟩, ?_⟩
  refine ⟨_, rfl, a, C, dx, _, _, rfl, h1, R.cl, R.nB, fsR_bottom _ _, _, rfl, p, C, dy, _, _, rfl, h2, R.cl, R.nT, fsR_top _ _, _, _, rfl, rfl, .inl ⟨by omega, by omega⟩, ?_⟩
  refine mk_frc (Int.mul_ne_zero (by omega) tz) (by omega) (by omega) (over_red (by have := sm.d0; omega) ne2 (by omega)) fun p' H' s' np h' => q p' H' (s1.trans s') (s1.free np) h'
end
end K5

/-! k44: ratios n/d: compared. -/
namespace K5
open PySem PySem.Spec PyProof.Rows L2 LamX K1 K18

def spCmpF (C : Addr) : Sp := fun vs H Q _ => ∃ a v n d n2 d2, vs = [.ref a, v] ∧ Frc C H a n d ∧ FrcV C H v n2 d2 ∧ SmF n d ∧ SmF n2 d2 ∧ ∀ (c : Int) H', (c < 0 ↔ n * d2 < n2 * d) → Same H H' → Q (.int c) H'
theorem cmp_is {n d n2 d2 : Int} (h : 0 < d) (h2 : 0 < d2) : rT n d * rB n2 d2 < rT n2 d2 * rB n d ↔ n * d2 < n2 * d := by
  have z := cmp_lt (a0 := n) (a1 := d) (b0 := n2) (b1 := d2) (by omega) (by omega)
  have p : 0 < d * d2 := Int.mul_pos h h2
  rw [z]
  constructor
  · intro y
    rcases Int.lt_or_le (n * d2 - n2 * d) 0 with w | w
    · omega
    · have := Int.mul_nonneg w (Int.le_of_lt p); omega
  · intro y
    exact Int.mul_neg_of_neg_of_pos (by omega) p
section
variable {P : Program} {w : World} {K : PySem.W.Frag} {mg : Str → Option Value} {base : Heap} {f C : Addr} {fd : FuncData}
abbrev nCmpF : List Str := ["self", "other", "right", "mine", "others"]
theorem scCmpF : FnScope nCmpF ["self", "other"] (defScope sRCmp) := ⟨rfl, rfl, rfl, by decide +kernel, rfl, by decide +kernel, by decide +kernel⟩
theorem ok_cmpF (R : RatF K C) (HR : HasRightF P w K mg base C) (F : DefAt K "compared" "Ratio.compared" sRCmp f fd) : FnOk P w K mg base CX0 5 f fd ["self", "other"] (spCmpF C) := by
  obtain ⟨fr, fdr, mR, kR, bR, GR⟩ := HR.h
  refine okN F scCmpF (fun vs H Q E ⟨a, v, n, d, n2, d2, e, _⟩ => by rw [e]; rfl) (fun cdv A outer s H vs Q E hr ⟨a, v, n, d, n2, d2, e, ha, hv, sm, sm2, q⟩ => ?_)
  subst e
  refine ⟨_, pss_cons (ps_set (i := 2) scCmpF.nd rfl (Or.inl rfl) (pe_call GR hr rfl mR kR bR .nil pass0 (pa_cons (pv 1) pa_nil)))
    (pss_cons (ps_par (i := 3) (j := 4) (by rfl) scCmpF.nd rfl rfl (by decide) rfl rfl (pa_cons (pe_op op_mul (pe_fld (pv 0) rfl) (pe_fld (pv 2) rfl)) (pa_cons (pe_op op_mul (pe_fld (pv 2) rfl) (pe_fld (pv 0) rfl)) pa_nil)) (by rfl))
    (pss_cons (ps_if (pt_cmpR op_eq (pv 3) (pv 4) (nomark _)) (pss_one (ps_ret pe_int)) pss_nil)
    (pss_one (ps_ret (pe_ifExp (pt_cmpR op_lt (pv 3) (pv 4) (nomark _)) (pe_un un_neg pe_int) pe_int))))), ?_⟩
  refine ⟨_, rfl, _, n2, d2, rfl, hv, sm2, fun p H1 s1 hp => ?_⟩
  obtain ⟨dx, h1⟩ := ha.same s1
  obtain ⟨dy, h2⟩ := hp
  obtain ⟨x0, x1, x2⟩ := sm.b
  obtain ⟨y0, y1, y2⟩ := sm2.b
  have ci := cmp_is (n := n) (n2 := n2) sm.d0 sm2.d0
  refine ⟨_, rfl, a, C, dx, _, _, rfl, h1, R.cl, R.nT, fsR_top _ _, _, rfl, p, C, dy, _, _, rfl, h2, R.cl, R.nB, fsR_bottom _ _, _, _, rfl, rfl, .inl ⟨by omega, by omega⟩, ?_⟩
  refine ⟨_, rfl, p, C, dy, _, _, rfl, h2, R.cl, R.nT, fsR_top _ _, _, rfl, a, C, dx, _, _, rfl, h1, R.cl, R.nB, fsR_bottom _ _, _, _, rfl, rfl, .inl ⟨by omega, by omega⟩, _, _, rfl, ?_⟩
  dsimp only
  generalize rT n d * rB n2 d2 = x at ci ⊢
  generalize rT n2 d2 * rB n d = y at ci ⊢
  refine ⟨_, rfl, _, rfl, rfl, decide (x = y), congrArg V.bl (decide_eq_decide.mpr ⟨fun e => V.int.inj e, fun e => by rw [e]⟩), ?_⟩
  by_cases e : x = y
  · rw [decide_eq_true e]
    exact iteT (q 0 H1 ⟨fun z => absurd z (by decide), fun z => absurd (ci.mpr z) (by omega)⟩ s1)
  rw [decide_eq_false e]
  refine iteF ⟨_, rfl, _, rfl, _, _, rfl, rfl, decide (x < y), rfl, ?_⟩
  by_cases l : x < y
  · rw [decide_eq_true l]
    exact iteT ⟨1, rfl, q (-1) H1 ⟨fun _ => ci.mp l, fun _ => by decide⟩ s1⟩
  · rw [decide_eq_false l]
    exact iteF (q 1 H1 ⟨fun z => absurd z (by decide), fun z => absurd (ci.mpr z) l⟩ s1)
end
end K5

/-! k44: ratios n/d: is_below, the negative. -/
namespace K5
open PySem PySem.Spec PyProof.Rows L2 LamX K1 K18

theorem fsR_no {x : Str} (t b : Int) (h1 : ¬ (("top" : Str) = x)) (h2 : ¬ (("bottom" : Str) = x)) : (fsR t b).lookup x = none := by
  unfold fsR
  rw [lookup_putF, if_neg (Ne.symm h2), lookup_putF, if_neg (Ne.symm h1)]
  rfl
theorem no_cmp (t b : Int) : (fsR t b).lookup ("compared" : Str) = none := fsR_no _ _ (by decide +kernel) (by decide +kernel)
theorem no_below (t b : Int) : (fsR t b).lookup ("is_below" : Str) = none := fsR_no _ _ (by decide +kernel) (by decide +kernel)
theorem no_over (t b : Int) : (fsR t b).lookup ("over" : Str) = none := fsR_no _ _ (by decide +kernel) (by decide +kernel)
/-- x.m(e): a method of one more value -/
structure Met1 (P : Program) (w : World) (K : PySem.W.Frag) (mg : Str → Option Value) (base : Heap) (C : Addr) (x : Str) (k : Nat) (sp : Sp) : Prop where
  h : ∃ f fd, Meth K C x f ∧ Binds K fd ["self", "other"] [] ∧ FnOk P w K mg base CX0 k f fd ["self", "other"] sp
def spBelF (C : Addr) : Sp := fun vs H Q _ => ∃ a v n d n2 d2, vs = [.ref a, v] ∧ Frc C H a n d ∧ FrcV C H v n2 d2 ∧ SmF n d ∧ SmF n2 d2 ∧ ∀ H', Same H H' → Q (.bl (decide (n * d2 < n2 * d))) H'
def spNegF (C : Addr) : Sp := fun vs H Q _ => ∃ a n d, vs = [.ref a] ∧ Frc C H a n d ∧ SmF n d ∧ NewF C H (-n) d Q
section
variable {P : Program} {w : World} {K : PySem.W.Frag} {mg : Str → Option Value} {base : Heap} {f C : Addr} {fd : FuncData}
theorem scBelF : FnScope ["self", "other"] ["self", "other"] (defScope sRBelow) := ⟨rfl, rfl, rfl, by decide +kernel, rfl, by decide +kernel, by decide +kernel⟩
theorem ok_belF (R : RatF K C) (M : Met1 P w K mg base C "compared" 5 (spCmpF C)) (F : DefAt K "is_below" "Ratio.is_below" sRBelow f fd) : FnOk P w K mg base CX0 6 f fd ["self", "other"] (spBelF C) := by
  obtain ⟨fc, fdc, Mc, bC, GC⟩ := M.h
  refine okN F scBelF (fun vs H Q E ⟨a, v, n, d, n2, d2, e, _⟩ => by rw [e]; rfl) (fun cdv A outer s H vs Q E hr ⟨a, v, n, d, n2, d2, e, ha, hv, sm, sm2, q⟩ => ?_)
  subst e
  refine ⟨_, pss_one (ps_ret (pe_cmpR op_lt (pe_meth (pv 0) R.cl Mc GC hr bC .nil pass0 (pa_cons (pv 1) pa_nil)) pe_int (nomark _))), ?_⟩
  obtain ⟨dx, h1⟩ := id ha
  refine ⟨_, rfl, a, dx, _, rfl, h1, no_cmp _ _, _, rfl, a, v, n, d, n2, d2, rfl, ha, hv, sm, sm2, fun c H1 hc s1 => ⟨_, _, rfl, rfl, ?_⟩⟩
  dsimp only
  rw [show decide (c < 0) = decide (n * d2 < n2 * d) from decide_eq_decide.mpr hc]
  exact q H1 s1
theorem ok_negF (R : RatF K C) (MR : MkR P w K mg base C) (F : DefAt K "__neg__" "Ratio.__neg__" sRNeg f fd) : FnOk P w K mg base CX0 4 f fd ["self"] (spNegF C) := by
  obtain ⟨fm, fdm, ds, M, GM, bM, _, _⟩ := MR.m
  refine okN F scNeg (fun vs H Q E ⟨a, n, d, e, _⟩ => by rw [e]; rfl) (fun cdv A outer s H vs Q E hr ⟨a, n, d, e, ha, sm, q⟩ => ?_)
  subst e
  refine ⟨_, pss_one (ps_ret (pe_make M GM hr rfl MR.g bM .nil pass0 (pa_cons (pe_un un_neg (pe_fld (pv 0) rfl)) (pa_cons (pe_fld (pv 0) rfl) pa_nil)))), ?_⟩
  obtain ⟨dx, h1⟩ := ha
  obtain ⟨x0, x1, x2⟩ := sm.b
  refine ⟨_, rfl, a, C, dx, _, _, rfl, h1, R.cl, R.nT, fsR_top _ _, _, rfl, _, rfl, a, C, dx, _, _, rfl, h1, R.cl, R.nB, fsR_bottom _ _, ?_⟩
  exact mk_frc (by omega) (by omega) (by omega) (neg_red (by have := sm.d0; omega)) q
end
end K5

/-! k04: for in a generator's body. -/
namespace K4
open PySem PySem.Spec PyProof.Rows L2 GenW

section
variable {prog : Program} {w : World} {A : Around} {R : GenEnd} {Y : Protocol} {n : Nat} {s₀ : Shared} {fs : List Frame} {s : Shared} {env : Env}
/-- one turn of a for loop -/
theorem seg_forTurn {tg : Expr} {it : Value} {body : List Stmt}
    (h : wpAny (model prog w) (A.over (.forLoop tg it body [] env) fs) (pyNext it) (fun r s1 => match r with
        | none => Seg (model prog w) A R Y n s₀ (.block [] env) ((model prog w).den (.block [] env)) fs s1
        | some v => wpAny (model prog w) (A.over (.forLoop tg it body [] env) fs) (letOwnedTupleGo tg it v) (fun _ s2 => wpAny (model prog w) (A.over (.forLoop tg it body [] env) fs) (assign tg env v) (fun _ s3 =>
            Seg (model prog w) A R Y n s₀ (.forLoop tg it body [] env) ((execs body env).wrap (fun f => match f with
              | .next | .cont => .pure (.again (.forLoop tg it body [] env))
              | .brk => .pure (.done .next)
              | .ret v => .pure (.done (.ret v))) (fun e => (do noteFrame e env; theTreesLotGoes e : Sem Unit).wrap (fun _ => .raise e) .raise id id) id id) fs s3)
          (fun x s' => Seg (model prog w) A R Y n s₀ (.forLoop tg it body [] env) ((do noteFrame x env; theTreesLotGoes x : Sem Unit).wrap (fun _ => .raise x) .raise id id) fs s') s2)
          (fun x s' => Seg (model prog w) A R Y n s₀ (.forLoop tg it body [] env) ((do noteFrame x env; theTreesLotGoes x : Sem Unit).wrap (fun _ => .raise x) .raise id id) fs s') s1)
      (fun x s' => Seg (model prog w) A R Y n s₀ (.forLoop tg it body [] env) ((do noteFrame x env; theTreesLotGoes x : Sem Unit).wrap (fun _ => .raise x) .raise id id) fs s') s) :
    Seg (model prog w) A R Y n s₀ (.forLoop tg it body [] env) ((model prog w).den (.forLoop tg it body [] env)) fs s := by
  show Seg _ A R Y n s₀ _ ((forTurn tg it body [] env).onRaise (fun x => do noteFrame x env; theTreesLotGoes x)) fs s
  unfold forTurn
  rw [Sem.onRaise_eq_wrap]
  have ex : ∀ x s', Seg (model prog w) A R Y n s₀ (.forLoop tg it body [] env) ((do noteFrame x env; theTreesLotGoes x : Sem Unit).wrap (fun _ => .raise x) .raise id id) fs s' →
      Seg (model prog w) A R Y n s₀ (.forLoop tg it body [] env) ((do noteFrame x env; theTreesLotGoes x : Sem Unit).bind fun _ => Sem.raise x) fs s' := fun x s' hx => by
    rw [Sem.bind_eq_wrap]; exact hx
  refine seg_bind_wrap (wpAny_standAt ?_)
  refine seg_bind_wrap (wpAny_onRaise (wpAny_mono h (fun r s1 h1 => ?_) fun x s' hx => wpAny_standAt (ex x s' hx)))
  cases r with
  | none => exact seg_again rfl h1
  | some v =>
    refine seg_bind_wrap (wpAny_mono h1 (fun _ s2 h2 => ?_) fun x s' hx => ex x s' hx)
    refine seg_bind_wrap (wpAny_mono h2 (fun _ s3 h3 => ?_) fun x s' hx => ex x s' hx)
    rw [Sem.bind_eq_wrap', Sem.wrap_wrap]
    rw [Sem.wrap_congr (execs body env) _ _ (K' := fun f => match f with
            | .next | .cont => .pure (.again (.forLoop tg it body [] env))
            | .brk => .pure (.done .next)
            | .ret v => .pure (.done (.ret v))) (H' := (fun e => (do noteFrame e env; theTreesLotGoes e : Sem Unit).wrap (fun _ => .raise e) .raise id id))
        (fun f => by cases f <;> rfl)
        (fun e => by first | exact Sem.bind_eq_wrap _ _ | (show (do noteFrame e env; theTreesLotGoes e : Sem Unit).bind (fun _ => .raise e) = _; rw [Sem.bind_eq_wrap]))]
    exact h3
/-- the end of a for loop without else -/
theorem seg_block0 (h : Seg (model prog w) A R Y n s₀ (.block [] env) (.pure (.done .next)) fs s) : Seg (model prog w) A R Y n s₀ (.block [] env) ((model prog w).den (.block [] env)) fs s := h
theorem seg_For {c : Code} {tg iter : Expr} {body : List Stmt} {pos : Pos} {K : Flow → Sem PySem.Fin} {J : Value → Sem PySem.Fin} {gd : Bool → Bool} {lv : List Value → List Value}
    (h : wpAny (model prog w) (A.over c fs) (eval iter env) (fun v s1 => wpAny (model prog w) (A.over c fs) (pyIter v) (fun itv s2 => ∀ p, Seg (model prog w) A R Y n s₀ (.forLoop tg itv body [] env) ((model prog w).den (.forLoop tg itv body [] env))
        (.ret (fun r => ((match r with | .ok f => (.pure f : Sem Flow) | .error e => .raise e).onRaise (cameBack env)).wrap K J gd lv) none (gd false) (lv []) c p [] :: fs) s2)
      (fun x s' => Seg (model prog w) A R Y n s₀ c (J x) fs s') s1) (fun x s' => Seg (model prog w) A R Y n s₀ c (J x) fs s') s)
    (hs : ∀ x, foldedSetIterable iter env x = pure x := by intro _; rfl) :
    Seg (model prog w) A R Y n s₀ c ((exec (.For tg iter body [] pos) env).wrap K J gd lv) fs s := by
  rw [exec_For]
  refine seg_bind_wrap (wpAny_standAt ?_)
  refine seg_bind_wrap (wpAny_mono h (fun v s1 h1 => ?_) fun _ _ hx => hx)
  refine seg_bind_wrap (wpAny_of_eq (hs v) ?_)
  refine seg_bind_wrap (wpAny_standAt ?_)
  refine seg_bind_wrap (wpAny_holding (wpAny_mono h1 (fun itv s2 h2 => ?_) fun _ _ hx => hx))
  exact seg_call h2
end
section
variable {X : Cx} {tg : Expr}
def tGFor (wi : TI) (g : TG) (tb : TGn) : TGn := fun D ys σ H => wi σ H fun J H1 => ∃ W : Nat → Nat → List V → L2.St → Hp → Prop, (∃ m, W 0 m ys σ H1) ∧ ∀ i m ys σ H, W i m ys σ H →
  (J.stop i H ∧ D.nx ys σ H) ∨ (J.go i H ∧ ∃ N : List V → L2.St → Hp → Prop, (∀ ys' σ' H', N ys' σ' H' → ∃ m', m' < m ∧ W (i + 1) m' ys' σ' H') ∧ ∀ x H', J.yld i H x H' → g x σ H' fun σ2 H2 => tb { D with nx := N, ct := N, bk := D.nx } ys σ2 H2)
theorem gs_for {iter : Expr} {body : List Stmt} {wi : TI} {g : TG} {tb : TGn} {pos : Pos} (hp : PassesOwn (model X.prog X.w) X.A X.env X.xe) (hc : X.calm = true) (hi : PI X tg iter wi) (hg : PG X tg g) (hb : GSs X body tb)
    (hs : ∀ x, foldedSetIterable iter X.env x = pure x := by intro _; rfl) : GS X (.For tg iter body [] pos) (tGFor wi g tb) := by
  refine ⟨fun A S ip R n ys s₀ c fs K J gd lv s σ H D gc hn k hI ht => ?_⟩
  obtain ⟨acc0, cc0, r0, I0⟩ := hI
  refine seg_For ?_ hs
  rw [gc.over]
  refine wpAny_mono (hi.run _ s σ H _ I0 ht) (fun v s1 h1 => ?_) fun x s' hx => k.exc n s₀ x s' hx
  refine wpAny_mono h1 (fun itv s2 h2 => ?_) fun x s' hx => k.exc n s₀ x s' hx
  intro p
  obtain ⟨it, fp, tn, Jt, H2, e, I2, T, st2, f2, W, ⟨m0, w0⟩, turn⟩ := h2
  subst e
  have gl : ∀ (c' : Code) (_ : c'.weight = 0) (_ : c'.cUnits = 0) (kk : Result → Sem PySem.Fin), GC X S ip A c' (.ret kk none (gd false) (lv []) c p [] :: fs) id := fun c' hw hu kk => gc_loop (k := kk) (c' := c') (l := lv []) (kp := []) (p := p) gc hw hu
  -- what stays true of the iterator's objects
  have stat : ∀ {H' : Hp} {acc : Array Value} {cc : Nat}, (∀ b ∈ fp, H' b = none) → ∀ b ∈ fp, FpOk X ((S, lstObj acc cc) :: ip) H' b := fun {H' acc cc} hn b hb => by
    obtain ⟨_, a2, a3, a4, a5, a6⟩ := f2 b hb
    refine ⟨hn b hb, a2, a3, a4, a5, fun q hq => ?_⟩
    rcases List.mem_append.mp hq with z | z
    · exact a6 q (List.mem_append_left _ z)
    · rcases List.mem_cons.mp z with z | z
      · rw [z]; exact a6 (S, lstObj acc0 cc0) (List.mem_append_right _ List.mem_cons_self)
      · exact a6 q (List.mem_append_right _ (List.mem_cons_of_mem _ z))
  have loop : ∀ (m i n : Nat) (ys : List V) (s₀ s : Shared) (σ : L2.St) (H : Hp), n + ys.length = sizeLine → W i m ys σ H → GI X S ip ys σ H s → tn i s.heap → (∀ b ∈ fp, H b = none) →
      Seg (model X.prog X.w) A R (GY X S) n s₀ (.forLoop tg (.ref it) body [] X.env) ((model X.prog X.w).den (.forLoop tg (.ref it) body [] X.env))
        (.ret (fun r => ((match r with | .ok f => (.pure f : Sem Flow) | .error e => .raise e).onRaise (cameBack X.env)).wrap K J gd lv) none (gd false) (lv []) c p [] :: fs) s := by
    intro m
    induction m using Nat.strongRecOn with
    | ind m ih =>
      intro i n ys s₀ s σ H hn w hI stt fr
      have ee : ∀ (n : Nat) (s₀ : Shared) (x : Value) (s' : Shared), X.xe x s' → Seg (model X.prog X.w) A R (GY X S) n s₀ (.forLoop tg (.ref it) body [] X.env)
          ((do noteFrame x X.env; theTreesLotGoes x : Sem Unit).wrap (fun _ => .raise x) .raise id id)
          (.ret (fun r => ((match r with | .ok f => (.pure f : Sem Flow) | .error e => .raise e).onRaise (cameBack X.env)).wrap K J gd lv) none (gd false) (lv []) c p [] :: fs) s' := fun n s₀ x s' hx => by
        refine seg_wrap ?_
        rw [(gl _ rfl rfl _).over]
        refine wpAny_bind (wpAny_mono (hp x s' hx) (fun _ s'' hcb => wpAny_theTreesLotGoes ?_) fun y s'' hcb => ?_)
        · exact seg_leaf (.error x) (seg_cameBack gc k hcb)
        · exact seg_leaf (.error y) (seg_cameBack gc k hcb)
      obtain ⟨acc, cc, r, I⟩ := hI
      refine seg_forTurn ?_
      rw [(gl _ rfl rfl _).over]
      rcases turn i m ys σ H w with ⟨stop, qn⟩ | ⟨go, N, hN, step⟩
      · refine wpAny_mono (T.done X rfl rfl rfl hc i _ s σ H X.xe I (stat fr) stt stop) (fun r' s4 ⟨hr, I4⟩ => ?_) fun x s' hx => ee n s₀ x s' hx
        subst hr
        exact seg_block0 (seg_leaf (.ok .next) (k.ok n ys s₀ s4 .next hn ⟨σ, H, ⟨acc, cc, r, I4⟩, qn⟩))
      · refine wpAny_mono (T.item X rfl rfl rfl hc i _ s σ H X.xe I (stat fr) stt go) (fun r' s4 ⟨u, hr, h4⟩ => ?_) fun x s' hx => ee n s₀ x s' hx
        subst hr
        refine wpAny_mono h4 (fun _ s5 ⟨x, H5, I5, r5, y5, st5, fr5⟩ => ?_) fun x s' hx => ee n s₀ x s' hx
        have I5' := I5.pinned (stat fr5) (T.obj _ _ st5)
        refine wpAny_mono (hg.run _ s5 σ H5 x u _ I5' r5 (step x H5 y5)) (fun _ s6 ⟨σ6, H6, I6, q6⟩ => ?_) fun x s' hx => ee n s₀ x s' hx
        have gip : ∀ q ∈ ip ++ pinsAt fp s5.heap, q.1 ≠ S := fun q hq => by
          rcases List.mem_append.mp hq with z | z
          · exact gc.ip q z
          · obtain ⟨z1, _⟩ := of_pinsAt z
            exact fun e => (f2 q.1 z1).2.2.2.2.2 (S, lstObj acc0 cc0) (List.mem_append_right _ List.mem_cons_self) e.symm
        have g0 := gl (.forLoop tg (.ref it) body [] X.env) rfl rfl (fun r => ((match r with | .ok f => (.pure f : Sem Flow) | .error e => .raise e).onRaise (cameBack X.env)).wrap K J gd lv)
        have gci : GC X S (ip ++ pinsAt fp s5.heap) A (.forLoop tg (.ref it) body [] X.env) (.ret (fun r => ((match r with | .ok f => (.pure f : Sem Flow) | .error e => .raise e).onRaise (cameBack X.env)).wrap K J gd lv) none (gd false) (lv []) c p [] :: fs) id :=
          ⟨g0.pn, gip, g0.apart, g0.over, g0.split, g0.guard, g0.gd⟩
        have unp : ∀ {ys' : List V} {σ' : L2.St} {H' : Hp} {s' : Shared}, GI X S (ip ++ pinsAt fp s5.heap) ys' σ' H' s' → GI X S ip ys' σ' H' s' ∧ tn (i + 1) s'.heap ∧ ∀ b ∈ fp, H' b = none := fun {ys' σ' H' s'} hG => by
          obtain ⟨acc', cc', r', I'⟩ := hG
          have pin : ∀ b ∈ fp, ∀ o, s5.heap.get? b = some o → s'.heap.get? b = some o ∧ H' b = none := fun b hb o e => by
            have z := I'.pin (b, o) (List.mem_append_right _ (List.mem_cons_of_mem _ (List.mem_append_right _ (mem_pinsAt hb e))))
            exact ⟨z.1, z.2.1⟩
          refine ⟨⟨acc', cc', r', Inv.unpinned (pins := (S, lstObj acc' cc') :: ip) I'⟩, T.keep _ _ _ st5 fun b hb o e => (pin b hb o e).1, fun b hb => ?_⟩
          obtain ⟨o, e, _⟩ := T.obj _ _ st5 b hb
          exact (pin b hb o e).2
        refine hb.run A S (ip ++ pinsAt fp s5.heap) R n ys s₀ _ _ _ _ id id s6 σ6 H6 { D with nx := N, ct := N, bk := D.nx } gci hn ⟨fun n' ys' s₀' s7 f hn' hs => ?_, fun n' s₀' x s7 hx => ee n' s₀' x s7 hx⟩ ⟨acc, cc, r, I6⟩ q6
        cases f with
        | next =>
          obtain ⟨σ7, H7, I7, n7⟩ := hs
          obtain ⟨m', hm, w7⟩ := hN ys' σ7 H7 n7
          obtain ⟨u1, u2, u3⟩ := unp I7
          exact seg_again rfl (ih m' hm (i + 1) n' ys' s₀' s7 σ7 H7 hn' w7 u1 u2 u3)
        | cont =>
          obtain ⟨σ7, H7, I7, n7⟩ := hs
          obtain ⟨m', hm, w7⟩ := hN ys' σ7 H7 n7
          obtain ⟨u1, u2, u3⟩ := unp I7
          exact seg_again rfl (ih m' hm (i + 1) n' ys' s₀' s7 σ7 H7 hn' w7 u1 u2 u3)
        | brk =>
          obtain ⟨σ7, H7, I7, q7⟩ := hs
          exact seg_leaf (.ok .next) (k.ok n' ys' s₀' s7 .next hn' ⟨σ7, H7, (unp I7).1, q7⟩)
        | ret v =>
          obtain ⟨x7, σ7, H7, I7, r7, q7⟩ := hs
          exact seg_leaf (.ok (.ret v)) (k.ok n' ys' s₀' s7 (.ret v) hn' ⟨x7, σ7, H7, (unp I7).1, r7, q7⟩)
  exact loop m0 0 n ys s₀ s2 σ H2 hn w0 ⟨acc0, cc0, r0, I2⟩ st2 fun b hb => (f2 b hb).1
end
end K4

/-! k44: generators that a comprehension walks: their bodies. -/
namespace K4
open PySem PySem.Spec PyProof.Rows L2 GenW

/-- who walks: its list, its block's frame; the generator, its number -/
structure Csm where
  S : Addr
  C : Addr
  a : Addr
  g : Nat
/-- a frame's record -/
def NsO (o : Obj) : Prop := ∃ es ep, o.data = .dict es ep ∧ StrKeys es
theorem NsO.ns {o : Obj} {h : Heap} {a : Addr} (n : NsO o) (e : h.get? a = some o) : ∃ m, h.Ns a m := let ⟨es, ep, d, k⟩ := n; ⟨_, o, es, ep, e, d, k, fun _ => rfl⟩
theorem NsO.of {h : Heap} {a : Addr} {m : Str → Option Value} (n : h.Ns a m) : ∃ o, h.get? a = some o ∧ NsO o := let ⟨o, es, ep, e, d, k, _⟩ := n; ⟨o, e, es, ep, d, k⟩
theorem NsO.nc {o : Obj} (n : NsO o) (v : Option Value) : o.data ≠ .cell v := by
  obtain ⟨es, ep, d, _⟩ := n
  rw [d]
  exact fun z => nomatch z
/-- what is put into the list for what is handed out -/
abbrev ItZ := Hp → V → V → Prop
/-- while it sleeps: zs in the list; kp: what it wants to find again -/
structure Wake (P : Program) (w : World) (outer : List Env) (Hc : Hp) (sc : Shared) (b : Csm) (kp : List (Addr × Obj)) (H : Hp) (zs : List V) (s : Shared) : Prop where
  os : s.os = sc.os
  bare : AllBare s.gens
  un : Un (frs outer) [] Hc H sc.heap s.heap
  hok : HOk P w H s.heap
  pins : ∀ p ∈ kp, s.heap.get? p.1 = some p.2
  lst : ∃ acc c, s.heap.get? b.S = some (lstObj acc c) ∧ Vals zs acc.toList
  fr : ∃ oc, s.heap.get? b.C = some oc ∧ NsO oc
/-- what it keeps are no things of the walker's -/
structure Aside (outer : List Env) (b : Csm) (kp : List (Addr × Obj)) (H : Hp) : Prop where
  kp : ∀ p ∈ kp, H p.1 = none ∧ p.1 ∉ frs outer ∧ p.1 ≠ b.S ∧ p.1 ≠ b.C ∧ ∀ v, p.2.data ≠ .cell v
  S : H b.S = none
  C : H b.C = none
def YZ (P : Program) (w : World) (outer : List Env) (Hc : Hp) (sc : Shared) (b : Csm) (FZ : ItZ) : Protocol := fun n _ v s kap =>
  ∃ zs x H kp, n + 1 + zs.length = sizeLine ∧ RelV x v ∧ Wake P w outer Hc sc b kp H zs s ∧ Aside outer b kp H ∧ (∀ h : Heap, (∀ p ∈ kp, h.get? p.1 = some p.2) → h.IsGen b.a b.g) ∧ (∃ z, FZ H x z) ∧ ∀ z s', FZ H x z → Wake P w outer Hc sc b kp H (zs ++ [z]) s' → kap (.send .none) s'
def RZ (P : Program) (w : World) (outer : List Env) (Hc : Hp) (sc : Shared) (b : Csm) (Q : List V → Hp → Prop) : GenEnd := fun _ _ r s =>
  ((r = .ok (.ret .none) ∨ r = .ok .next) ∧ ∃ H zs, zs.length ≤ sizeLine ∧ Wake P w outer Hc sc b [] H zs s ∧ Aside outer b [] H ∧ Q zs H) ∨ ∃ e, r = .error e ∧ False
/-- running: zs in the walker's list -/
def GZ (X : Cx) (b : Csm) (ip : List (Addr × Obj)) (zs : List V) (σ : L2.St) (H : Hp) (s : Shared) : Prop :=
  ∃ acc c oc, NsO oc ∧ Vals zs acc.toList ∧ Inv X ((b.S, lstObj acc c) :: (b.C, oc) :: ip) σ H s
/-- where its code stands -/
structure GCz (X : Cx) (b : Csm) (ip : List (Addr × Obj)) (A : Around) (c : Code) (fs : List Frame) (gd : Bool → Bool) : Prop where
  ne : b.S ≠ b.C
  pn : ∀ p ∈ X.pn ++ ip, p.1 ≠ b.S ∧ p.1 ≠ b.C
  nc : ∀ x, X.env.cells.lookup x = none
  nx : X.ex = []
  gen : ∃ go, (b.a, go) ∈ X.pn ∧ ∀ h : Heap, h.get? b.a = some go → h.IsGen b.a b.g
  calm : ∀ u s, ¬ X.xe u s
  over : A.over c fs = X.A
  split : splitAtGen fs = none
  guard : fs.any Frame.guarded = false
  gd : gd false = false
section
variable {X : Cx} {b : Csm} {ip : List (Addr × Obj)} {A : Around} {c : Code} {fs : List Frame} {gd : Bool → Bool} {zs : List V} {σ : L2.St} {H : Hp} {s : Shared}
/-- it falls asleep; whatever wakes it, finds it as it was -/
theorem GZ.sleep (g : GCz X b ip A c fs gd) (h : GZ X b ip zs σ H s) : ∃ kp, Wake X.prog X.w X.outer X.H_0 X.s_0 b kp H zs s ∧ Aside X.outer b kp H ∧ (∀ h : Heap, (∀ p ∈ kp, h.get? p.1 = some p.2) → h.IsGen b.a b.g) ∧
    ∀ ys s', Wake X.prog X.w X.outer X.H_0 X.s_0 b kp H ys s' → GZ X b ip ys σ H s' := by
  obtain ⟨acc, cc, oc, no, r, I⟩ := h
  obtain ⟨m, nsL, look⟩ := I.loc
  obtain ⟨oL, eL, nL⟩ := NsO.of nsL
  have pS := I.pin (b.S, lstObj acc cc) (List.mem_append_right _ List.mem_cons_self)
  have pC := I.pin (b.C, oc) (List.mem_append_right _ (List.mem_cons_of_mem _ List.mem_cons_self))
  have pin : ∀ p ∈ X.pn ++ ip, s.heap.get? p.1 = some p.2 ∧ H p.1 = none ∧ p.1 ≠ X.env.locals ∧ p.1 ∉ X.fs ∧ ∀ v, p.2.data ≠ .cell v := fun p hp => I.pin p (by
    rcases List.mem_append.mp hp with z | z
    · exact List.mem_append_left _ z
    · exact List.mem_append_right _ (List.mem_cons_of_mem _ (List.mem_cons_of_mem _ z)))
  have un : Un (frs X.outer) [] X.H_0 H X.s_0.heap s.heap := by
    have z := I.base
    rw [g.nx] at z
    exact z
  refine ⟨(X.env.locals, oL) :: (X.pn ++ ip), ⟨I.os, I.bare, un, I.hok, fun p hp => ?_, ⟨acc, cc, pS.1, r⟩, ⟨oc, pC.1, no⟩⟩, ⟨fun p hp => ?_, pS.2.1, pC.2.1⟩, ?_, fun ys s' w => ?_⟩
  · rcases List.mem_cons.mp hp with z | z
    · rw [z]; exact eL
    · exact (pin p z).1
  · rcases List.mem_cons.mp hp with z | z
    · rw [z]
      exact ⟨I.free, fun hm => by
        obtain ⟨_, o0, e0, _⟩ := I.ok.funs.mem hm
        exact absurd (Nat.lt_of_lt_of_le (Heap.lt_size e0) I.ok.above) (Nat.lt_irrefl _), Ne.symm pS.2.2.1, Ne.symm pC.2.2.1, nL.nc⟩
    · obtain ⟨a1, a2, a3, a4, a5⟩ := pin p z
      exact ⟨a2, a4, (g.pn p z).1, (g.pn p z).2, a5⟩
  · obtain ⟨go, mg, hg⟩ := g.gen
    exact fun h hp => hg h (hp _ (List.mem_cons_of_mem _ (List.mem_append_left _ mg)))
  · obtain ⟨acc', cc', eS, r'⟩ := w.lst
    obtain ⟨oc', eC, no'⟩ := w.fr
    have eL' : s'.heap.get? X.env.locals = some oL := w.pins _ List.mem_cons_self
    have noC : ∀ {x c}, X.env.cells.lookup x = some c → False := fun {x c} e => by rw [g.nc x] at e; cases e
    refine ⟨acc', cc', oc', no', r', ⟨I.ok, w.os, w.bare, ?_, ⟨m, ?_, fun i x v e1 e2 e3 => ?_⟩, fun x c e => (noC e).elim, I.free, fun x c e => (noC e).elim, fun p hp => ?_, w.hok, I.len⟩⟩
    · show Un (frs X.outer) X.ex X.H_0 H X.s_0.heap s'.heap
      rw [g.nx]
      exact w.un
    · obtain ⟨o, es, ep, e, r⟩ := nsL
      rw [eL] at e
      cases e
      exact ⟨_, es, ep, eL', r⟩
    · obtain ⟨u, rv, lk⟩ := look i x v e1 e2 e3
      refine ⟨u, rv, ?_⟩
      rcases lk with lk | ⟨_, c, e, _⟩
      · exact .inl lk
      · exact (noC e).elim
    · rcases List.mem_append.mp hp with z | z
      · obtain ⟨a1, a2, a3, a4, a5⟩ := pin p (List.mem_append_left _ z)
        exact ⟨w.pins _ (List.mem_cons_of_mem _ (List.mem_append_left _ z)), a2, a3, a4, a5⟩
      · rcases List.mem_cons.mp z with z | z
        · rw [z]
          exact ⟨eS, pS.2.1, pS.2.2.1, pS.2.2.2.1, fun v q => nomatch q⟩
        · rcases List.mem_cons.mp z with z | z
          · rw [z]
            exact ⟨eC, pC.2.1, pC.2.2.1, pC.2.2.2.1, no'.nc⟩
          · obtain ⟨a1, a2, a3, a4, a5⟩ := pin p (List.mem_append_right _ z)
            exact ⟨w.pins _ (List.mem_cons_of_mem _ (List.mem_append_right _ z)), a2, a3, a4, a5⟩
end
/-- behind a statement of it -/
def GSPz (X : Cx) (b : Csm) (ip : List (Addr × Obj)) (D : GEnds) (zs : List V) (f : Flow) (s : Shared) : Prop :=
  match f with
  | .next => ∃ σ H, GZ X b ip zs σ H s ∧ D.nx zs σ H
  | .brk => ∃ σ H, GZ X b ip zs σ H s ∧ D.bk zs σ H
  | .cont => ∃ σ H, GZ X b ip zs σ H s ∧ D.ct zs σ H
  | .ret u => ∃ v σ H, GZ X b ip zs σ H s ∧ RelV v u ∧ D.rt zs v H
abbrev YX (X : Cx) (b : Csm) (FZ : ItZ) : Protocol := YZ X.prog X.w X.outer X.H_0 X.s_0 b FZ
/-- what follows -/
def GKz (X : Cx) (b : Csm) (FZ : ItZ) (ip : List (Addr × Obj)) (A : Around) (R : GenEnd) (c : Code) (fs : List Frame) (K : Flow → Sem PySem.Fin) (D : GEnds) : Prop :=
  ∀ (n : Nat) (zs : List V) (s₀ s : Shared) (f : Flow), n + zs.length = sizeLine → GSPz X b ip D zs f s → Seg (model X.prog X.w) A R (YX X b FZ) n s₀ c (K f) fs s
/-- a statement's reading, several -/
def GSz (X : Cx) (FZ : ItZ) (st : Stmt) (t : TGn) : Prop :=
  ∀ (A : Around) (b : Csm) (ip : List (Addr × Obj)) (R : GenEnd) (n : Nat) (zs : List V) (s₀ : Shared) (c : Code) (fs : List Frame) (K : Flow → Sem PySem.Fin) (J : Value → Sem PySem.Fin) (gd : Bool → Bool) (lv : List Value → List Value) (s : Shared) (σ : L2.St) (H : Hp) (D : GEnds),
    GCz X b ip A c fs gd → n + zs.length = sizeLine → GKz X b FZ ip A R c fs K D → GZ X b ip zs σ H s → t D zs σ H → Seg (model X.prog X.w) A R (YX X b FZ) n s₀ c ((exec st X.env).wrap K J gd lv) fs s
def GSsz (X : Cx) (FZ : ItZ) (st : List Stmt) (t : TGn) : Prop :=
  ∀ (A : Around) (b : Csm) (ip : List (Addr × Obj)) (R : GenEnd) (n : Nat) (zs : List V) (s₀ : Shared) (c : Code) (fs : List Frame) (K : Flow → Sem PySem.Fin) (J : Value → Sem PySem.Fin) (gd : Bool → Bool) (lv : List Value → List Value) (s : Shared) (σ : L2.St) (H : Hp) (D : GEnds),
    GCz X b ip A c fs gd → n + zs.length = sizeLine → GKz X b FZ ip A R c fs K D → GZ X b ip zs σ H s → t D zs σ H → Seg (model X.prog X.w) A R (YX X b FZ) n s₀ c ((execs st X.env).wrap K J gd lv) fs s
section
variable {X : Cx} {FZ : ItZ} {st : Stmt} {rest : List Stmt} {t u : TGn}
theorem gz_nil : GSsz X FZ [] tG0 := fun A b ip R n zs s₀ c fs K J gd lv s σ H D g hn k hI ht => seg_execs_nil (k n zs s₀ s .next hn ⟨σ, H, hI, ht⟩)
theorem gz_cons (h1 : GSz X FZ st t) (h2 : GSsz X FZ rest u) : GSsz X FZ (st :: rest) (tGThen t u) := fun A b ip R n zs s₀ c fs K J gd lv s σ H D g hn k hI ht => by
  refine seg_execs_cons (h1 A b ip R n zs s₀ c fs _ J gd lv s σ H { D with nx := fun ys τ G => u D ys τ G } g hn (fun m ys s1 s2 f hm hs => ?_) hI ht)
  cases f with
  | next =>
    obtain ⟨τ, G, J2, q⟩ := hs
    exact h2 A b ip R m ys s1 c fs K J gd lv s2 τ G D g hm k J2 q
  | brk => exact k m ys s1 s2 .brk hm hs
  | cont => exact k m ys s1 s2 .cont hm hs
  | ret v => exact k m ys s1 s2 (.ret v) hm hs
/-- a statement that hands out nothing -/
theorem gz_ps {tp : TS} (h : PS X st tp) : GSz X FZ st (tPlain tp) := fun A b ip R n zs s₀ c fs K J gd lv s σ H D g hn k hI ht => by
  obtain ⟨acc, cc, oc, no, r, I⟩ := hI
  have lift : ∀ {τ : L2.St} {G : Hp} {s2 : Shared}, Inv X ((b.S, lstObj acc cc) :: (b.C, oc) :: ip) τ G s2 → GZ X b ip zs τ G s2 := fun J2 => ⟨acc, cc, oc, no, r, J2⟩
  refine seg_wrap ?_
  rw [g.over]
  refine wpAny_mono (h.run _ s σ H (D.at zs) I ht) (fun f s2 hs => k n zs s₀ s2 f hn ?_) fun x s2 hx => (g.calm x s2 hx).elim
  cases f with
  | next => obtain ⟨τ, G, J2, q⟩ := hs; exact ⟨τ, G, lift J2, q⟩
  | brk => obtain ⟨τ, G, J2, q⟩ := hs; exact ⟨τ, G, lift J2, q⟩
  | cont => obtain ⟨τ, G, J2, q⟩ := hs; exact ⟨τ, G, lift J2, q⟩
  | ret v => obtain ⟨y, τ, G, J2, rv, q⟩ := hs; exact ⟨y, τ, G, lift J2, rv, q⟩
/-- yield e: the walker can, and puts something for it -/
def tZYield (FZ : ItZ) (te : TE) : TGn := fun D zs σ H => zs.length < sizeLine ∧ te σ H fun x H1 => (∃ z, FZ H1 x z) ∧ ∀ z, FZ H1 x z → D.nx (zs ++ [z]) σ H1
theorem gz_yield {e : Expr} {yp pos : Pos} {te : TE} (he : PE X e te) (hco : X.env.scope.isCoroutine = false := by rfl) (hi : interactive X.env = false := by rfl) : GSz X FZ (.Expr (.Yield (some e) yp) pos) (tZYield FZ te) := fun A b ip R n zs s₀ c fs K J gd lv s σ H D g hn k hI ht => by
  obtain ⟨hlt, ht⟩ := ht
  obtain ⟨n, rfl⟩ : ∃ m, n = m + 1 := ⟨n - 1, by omega⟩
  obtain ⟨acc, cc, oc, no, r, I⟩ := hI
  refine seg_Expr_Yield g.split g.gd g.guard ?_ hco hi
  rw [g.over]
  refine wpAny_mono (he.run _ s σ H _ I ht) (fun v s2 hv => ?_) fun x s2 hx => (g.calm x s2 hx).elim
  obtain ⟨x, G, J2, rv, ex, q⟩ := hv
  obtain ⟨kp, wk, as, ig, back⟩ := GZ.sleep g (⟨acc, cc, oc, no, r, J2⟩ : GZ X b ip zs σ G s2)
  intro kap hk
  refine ⟨zs, x, G, kp, hn, rv, wk, as, ig, ex, fun z s3 fz w3 => hk .none s3 ?_⟩
  refine k n (zs ++ [z]) s3 s3 .next ?_ ⟨σ, G, back _ _ w3, q z fz⟩
  rw [List.length_append, List.length_singleton]
  omega
end
end K4

/-! k44: generators that a comprehension walks: for in their bodies. -/
namespace K4
open PySem PySem.Spec PyProof.Rows L2 GenW

/-- a loop's code over the frame it came from -/
theorem GCz.loop {X : Cx} {b : Csm} {ip : List (Addr × Obj)} {A : Around} {c c' : Code} {fs : List Frame} {gd : Bool → Bool} {k : Result → Sem PySem.Fin} {l kp : List Value} {p : Pos} (g : GCz X b ip A c fs gd) (hw : c'.weight = 0) (hu : c'.cUnits = 0) :
    GCz X b ip A c' (.ret k none (gd false) l c p kp :: fs) id :=
  { g with
    over := (over_loop hw hu).trans g.over
    split := by
      show (splitAtGen fs).map _ = none
      rw [g.split]
      rfl
    guard := by
      show (gd false || fs.any Frame.guarded) = false
      rw [g.gd, g.guard]
      rfl
    gd := rfl }
section
variable {X : Cx} {FZ : ItZ} {tg : Expr}
theorem gz_for {iter : Expr} {body : List Stmt} {wi : TI} {g : TG} {tb : TGn} {pos : Pos} (hc : X.calm = true) (hi : PI X tg iter wi) (hg : PG X tg g) (hb : GSsz X FZ body tb)
    (hs : ∀ x, foldedSetIterable iter X.env x = pure x := by intro _; rfl) : GSz X FZ (.For tg iter body [] pos) (tGFor wi g tb) := fun A b ip R n zs s₀ c fs K J gd lv s σ H D gc hn k hI ht => by
  obtain ⟨acc0, cc0, oc0, no0, r0, I0⟩ := hI
  refine seg_For ?_ hs
  rw [gc.over]
  refine wpAny_mono (hi.run _ s σ H _ I0 ht) (fun v s1 h1 => ?_) fun x s' hx => (gc.calm x s' hx).elim
  refine wpAny_mono h1 (fun itv s2 h2 => ?_) fun x s' hx => (gc.calm x s' hx).elim
  intro p
  obtain ⟨it, fp, tn, Jt, H2, e, I2, T, st2, f2, W, ⟨m0, w0⟩, turn⟩ := h2
  subst e
  have gl : ∀ (c' : Code) (_ : c'.weight = 0) (_ : c'.cUnits = 0) (kk : Result → Sem PySem.Fin), GCz X b ip A c' (.ret kk none (gd false) (lv []) c p [] :: fs) id := fun c' hw hu kk => GCz.loop (k := kk) (c' := c') (l := lv []) (kp := []) (p := p) gc hw hu
  have stat : ∀ {H' : Hp} {acc : Array Value} {cc : Nat} {oc : Obj}, (∀ d ∈ fp, H' d = none) → ∀ d ∈ fp, FpOk X ((b.S, lstObj acc cc) :: (b.C, oc) :: ip) H' d := fun {H' acc cc oc} hn d hd => by
    obtain ⟨_, a2, a3, a4, a5, a6⟩ := f2 d hd
    refine ⟨hn d hd, a2, a3, a4, a5, fun q hq => ?_⟩
    rcases List.mem_append.mp hq with z | z
    · exact a6 q (List.mem_append_left _ z)
    · rcases List.mem_cons.mp z with z | z
      · rw [z]; exact a6 (b.S, lstObj acc0 cc0) (List.mem_append_right _ List.mem_cons_self)
      · rcases List.mem_cons.mp z with z | z
        · rw [z]; exact a6 (b.C, oc0) (List.mem_append_right _ (List.mem_cons_of_mem _ List.mem_cons_self))
        · exact a6 q (List.mem_append_right _ (List.mem_cons_of_mem _ (List.mem_cons_of_mem _ z)))
  have loop : ∀ (m i n : Nat) (zs : List V) (s₀ s : Shared) (σ : L2.St) (H : Hp), n + zs.length = sizeLine → W i m zs σ H → GZ X b ip zs σ H s → tn i s.heap → (∀ d ∈ fp, H d = none) →
      Seg (model X.prog X.w) A R (YX X b FZ) n s₀ (.forLoop tg (.ref it) body [] X.env) ((model X.prog X.w).den (.forLoop tg (.ref it) body [] X.env))
        (.ret (fun r => ((match r with | .ok f => (.pure f : Sem Flow) | .error e => .raise e).onRaise (cameBack X.env)).wrap K J gd lv) none (gd false) (lv []) c p [] :: fs) s := by
    intro m
    induction m using Nat.strongRecOn with
    | ind m ih =>
      intro i n zs s₀ s σ H hn w hI stt fr
      obtain ⟨acc, cc, oc, no, r, I⟩ := hI
      refine seg_forTurn ?_
      rw [(gl _ rfl rfl _).over]
      rcases turn i m zs σ H w with ⟨stop, qn⟩ | ⟨go, N, hN, step⟩
      · refine wpAny_mono (T.done X rfl rfl rfl hc i _ s σ H (fun _ _ => False) I (stat fr) stt stop) (fun r' s4 ⟨hr, I4⟩ => ?_) fun x s' hx => hx.elim
        subst hr
        exact seg_block0 (seg_leaf (.ok .next) (k n zs s₀ s4 .next hn ⟨σ, H, ⟨acc, cc, oc, no, r, I4⟩, qn⟩))
      · refine wpAny_mono (T.item X rfl rfl rfl hc i _ s σ H (fun _ _ => False) I (stat fr) stt go) (fun r' s4 ⟨u, hr, h4⟩ => ?_) fun x s' hx => hx.elim
        subst hr
        refine wpAny_mono h4 (fun _ s5 ⟨x, H5, I5, r5, y5, st5, fr5⟩ => ?_) fun x s' hx => hx.elim
        have I5' := I5.pinned (stat fr5) (T.obj _ _ st5)
        refine wpAny_mono (hg.run _ s5 σ H5 x u _ I5' r5 (step x H5 y5)) (fun _ s6 ⟨σ6, H6, I6, q6⟩ => ?_) fun x s' hx => (gc.calm x s' hx).elim
        have gip : ∀ q ∈ X.pn ++ (ip ++ pinsAt fp s5.heap), q.1 ≠ b.S ∧ q.1 ≠ b.C := fun q hq => by
          rw [← List.append_assoc] at hq
          rcases List.mem_append.mp hq with z | z
          · exact gc.pn q z
          · obtain ⟨z1, _⟩ := of_pinsAt z
            exact ⟨fun e => (f2 q.1 z1).2.2.2.2.2 (b.S, lstObj acc0 cc0) (List.mem_append_right _ List.mem_cons_self) e.symm, fun e => (f2 q.1 z1).2.2.2.2.2 (b.C, oc0) (List.mem_append_right _ (List.mem_cons_of_mem _ List.mem_cons_self)) e.symm⟩
        have g0 := gl (.forLoop tg (.ref it) body [] X.env) rfl rfl (fun r => ((match r with | .ok f => (.pure f : Sem Flow) | .error e => .raise e).onRaise (cameBack X.env)).wrap K J gd lv)
        have gci : GCz X b (ip ++ pinsAt fp s5.heap) A (.forLoop tg (.ref it) body [] X.env) (.ret (fun r => ((match r with | .ok f => (.pure f : Sem Flow) | .error e => .raise e).onRaise (cameBack X.env)).wrap K J gd lv) none (gd false) (lv []) c p [] :: fs) id :=
          { g0 with pn := gip }
        have unp : ∀ {ys : List V} {τ : L2.St} {G : Hp} {s' : Shared}, GZ X b (ip ++ pinsAt fp s5.heap) ys τ G s' → GZ X b ip ys τ G s' ∧ tn (i + 1) s'.heap ∧ ∀ d ∈ fp, G d = none := fun {ys τ G s'} hG => by
          obtain ⟨acc', cc', oc', no', r', I'⟩ := hG
          have pin : ∀ d ∈ fp, ∀ o, s5.heap.get? d = some o → s'.heap.get? d = some o ∧ G d = none := fun d hd o e => by
            have z := I'.pin (d, o) (List.mem_append_right _ (List.mem_cons_of_mem _ (List.mem_cons_of_mem _ (List.mem_append_right _ (mem_pinsAt hd e)))))
            exact ⟨z.1, z.2.1⟩
          refine ⟨⟨acc', cc', oc', no', r', Inv.unpinned (pins := (b.S, lstObj acc' cc') :: (b.C, oc') :: ip) I'⟩, T.keep _ _ _ st5 fun d hd o e => (pin d hd o e).1, fun d hd => ?_⟩
          obtain ⟨o, e, _⟩ := T.obj _ _ st5 d hd
          exact (pin d hd o e).2
        refine hb A b (ip ++ pinsAt fp s5.heap) R n zs s₀ _ _ _ _ id id s6 σ6 H6 { D with nx := N, ct := N, bk := D.nx } gci hn (fun n' ys s1 s7 f hn' hs => ?_) ⟨acc, cc, oc, no, r, I6⟩ q6
        cases f with
        | next =>
          obtain ⟨σ7, H7, I7, n7⟩ := hs
          obtain ⟨m', hm, w7⟩ := hN ys σ7 H7 n7
          obtain ⟨u1, u2, u3⟩ := unp I7
          exact seg_again rfl (ih m' hm (i + 1) n' ys s1 s7 σ7 H7 hn' w7 u1 u2 u3)
        | cont =>
          obtain ⟨σ7, H7, I7, n7⟩ := hs
          obtain ⟨m', hm, w7⟩ := hN ys σ7 H7 n7
          obtain ⟨u1, u2, u3⟩ := unp I7
          exact seg_again rfl (ih m' hm (i + 1) n' ys s1 s7 σ7 H7 hn' w7 u1 u2 u3)
        | brk =>
          obtain ⟨σ7, H7, I7, q7⟩ := hs
          exact seg_leaf (.ok .next) (k n' ys s1 s7 .next hn' ⟨σ7, H7, (unp I7).1, q7⟩)
        | ret v =>
          obtain ⟨x7, σ7, H7, I7, r7, q7⟩ := hs
          exact seg_leaf (.ok (.ret v)) (k n' ys s1 s7 (.ret v) hn' ⟨x7, σ7, H7, (unp I7).1, r7, q7⟩)
  exact loop m0 0 n zs s₀ s2 σ H2 hn w0 ⟨acc0, cc0, oc0, no0, r0, I2⟩ st2 fun d hd => (f2 d hd).1
end
end K4

/-! k44: generators that a comprehension walks: their defs. -/
namespace K4
open PySem PySem.Spec PyProof.Rows L2 GenW

theorem noCells : ∀ {names : List (Str × NameKind)} {n : Nat} {acc : List (Str × Addr)}, (∀ y ∈ names, y.2 ≠ .cell) → cellsFrom n names acc = acc
  | [], _, _, _ => rfl
  | (x, k) :: r, n, acc, h => by
    unfold cellsFrom
    rw [if_neg (by
      intro z
      exact h (x, k) List.mem_cons_self (by simpa using z))]
    exact noCells fun y hy => h y (List.mem_cons_of_mem _ hy)
/-- a generator that has not begun -/
def MadeZ (P : Program) (w : World) (k : Nat) (outer : List Env) (H : Hp) (s : Shared) (FZ : ItZ) (Q : List V → Hp → Prop) (u : Value) (s' : Shared) : Prop :=
  ∃ (a : Addr) (g : Nat) (c : Code), u = .ref a ∧ s.heap.objs.size ≤ a ∧ a < s'.heap.objs.size ∧ s'.heap.IsGen a g ∧ s'.gens[g]? = some (.fresh c) ∧ s'.os = s.os ∧ AllBare s'.gens ∧ s'.heap.NoLimit ∧ (∀ b o, s.heap.get? b = some o → s'.heap.get? b = some o) ∧
    ∀ (A : Around) (S C : Addr) (s2 : Shared), Room k A → A.frames = some outer → s'.heap.objs.size ≤ S → s'.heap.objs.size ≤ C → S ≠ C → (∀ b o, s'.heap.get? b = some o → s2.heap.get? b = some o) → (∃ c, s2.heap.get? S = some (lstObj #[] c)) → (∃ oc, s2.heap.get? C = some oc ∧ NsO oc) →
      s2.os = s.os → AllBare s2.gens → Seg (model P w) A (RZ P w outer H s ⟨S, C, a, g⟩ Q) (YZ P w outer H s ⟨S, C, a, g⟩ FZ) sizeLine s2 c ((model P w).den c) [] s2
structure FnZ (P : Program) (w : World) (K : PySem.W.Frag) (mg : Str → Option Value) (base : Heap) (k : Nat) (f : Addr) (fd : FuncData) (ps : List Str) (FZ : ItZ) (sp : SpG) : Prop where
  len : ∀ vs H Q E, sp vs H Q E → vs.length = ps.length
  run : ∀ (A : Around) (outer : List Env) (s : Shared) (H : Hp) (args : Args) (us : List Value) (vs : List V) (Q : List V → Hp → Prop) (E : XK), Room k A → Env0 P w K mg base A outer s H → BindsTo s fd args (ps.zip us) → Vals vs us → sp vs H Q E →
    codeAny (model P w) A (.call (.ref f) args) (fun r s' => match r with | .ok (.ret u) => MadeZ P w k outer H s FZ Q u s' | _ => False) s
/-- its body's context -/
abbrev zcx (P : Program) (w : World) (K : PySem.W.Frag) (mg : Str → Option Value) (base : Heap) (N : List Str) (qual : Str) (scope : Scope) (f : Addr) (cd : Value) (A : Around) (outer : List Env) (s : Shared) (H : Hp) (pn : List (Addr × Obj)) : Cx :=
  (gcxOf P w K mg base N qual scope f cd A outer s H (fun _ _ _ => False) pn).nox
/-- a generator def, by its body -/
theorem fnz_of {P : Program} {w : World} {K : PySem.W.Frag} {mg : Str → Option Value} {base : Heap} {k : Nat} {f : Addr} {name qual : Str} {params : Arguments} {body : List Stmt} {scope : Scope} {dV kV doc pm cdv ct oc : Value} {an od : Option Addr}
    {osl : Array (Option Value)} {N ps : List Str} {FZ : ItZ} {sp : SpG} (lk : K.lookup f = some ⟨oc, od, .func (PySem.W.fnOf name qual params body scope dV kV doc pm an cdv ct), osl⟩) (hcd : PySem.W.codeIn K cdv qual = true) (SC : GScope N ps scope)
    (nc : ∀ y ∈ scope.names, y.2 ≠ .cell) (len : ∀ vs H Q E, sp vs H Q E → vs.length = ps.length)
    (hbody : ∀ (A : Around) (outer : List Env) (s : Shared) (H : Hp) (vs : List V) (Q : List V → Hp → Prop) (E : XK) (pn : List (Addr × Obj)), Room k (A.deeper (envOfC qual scope s.heap.objs.size f cdv)) → sp vs H Q E →
      ∃ t, GSsz (zcx P w K mg base N qual scope f cdv A outer s H pn) FZ body t ∧ t { nx := fun zs _ H' => Q zs H', rt := fun zs v H' => v = .non ∧ Q zs H' } [] (start N vs) H) :
    FnZ P w K mg base (k + 1) f (PySem.W.fnOf name qual params body scope dV kV doc pm an cdv ct) ps FZ sp := by
  refine ⟨len, fun A outer s H args us vs Q E hr e0 hb r hsp => ?_⟩
  have hl := len _ _ _ _ hsp
  have old : ∀ {b : Addr} {o : Obj}, base.get? b = some o → s.heap.get? b = some o := fun {b o} e => (e0.bs b o e).1
  have kin : K.In s.heap := e0.mod.kin.keeps fun b o e => old e
  have lim0 : s.heap.NoLimit := e0.mod.nolimit.keeps fun b o e => old e
  have par : ∀ y ∈ ps.zip us, scope.names.lookup y.1 = some .local ∨ (scope.names.lookup y.1 = some .cell ∧ ((cellsFrom (s.heap.objs.size + 1) scope.names []).lookup y.1).isSome = true) := fun ⟨n, v⟩ hy =>
    (SC.par n (List.of_mem_zip hy).1).imp id fun q => ⟨q, PySem.W.cellsFrom_some _ _ _ (.inl q)⟩
  refine codeAny_call_generator hr.depth (kin _ _ lk) rfl SC.co SC.gen rfl (PySem.W.codeRec_of kin hcd) (hb _ _ _ _ (wpAny_newFunctionEnv_cells SC.kind par fun env he s1 x => ?_))
  subst he
  obtain ⟨h1, tk, es1, hk1⟩ := x.done
  have kp1 : ∀ b o, s.heap.get? b = some o → s1.heap.get? b = some o := x.toInCall.keep
  have lim1 : s1.heap.NoLimit := lim0.keeps kp1
  refine ⟨lim1, ?_⟩
  have lt1 : s.heap.objs.size < s1.heap.objs.size := x.toInCall.ns.lt
  generalize hgo : ({ cls := .type "generator", data := .fields #[.int s1.gens.size 0, .str (PySem.W.fnOf name qual params body scope dV kV doc pm an cdv ct).name s1.toks, .str (PySem.W.fnOf name qual params body scope dV kV doc pm an cdv ct).qualname (s1.toks + 1)] } : Obj) = go
  have isG : ∀ h : Heap, h.get? s1.heap.objs.size = some go → h.IsGen s1.heap.objs.size s1.gens.size := fun h e => ⟨go, _, _, e, by rw [← hgo], by rw [← hgo], by rw [← hgo]⟩
  have put : (s1.heap.push go).get? s1.heap.objs.size = some go := by rw [← hgo]; exact Heap.get?_push_size _ rfl
  refine ⟨s1.heap.objs.size, s1.gens.size, _, rfl, Nat.le_of_lt lt1, (by show _ < (s1.heap.push go).objs.size; rw [Heap.size_push]; exact Nat.lt_succ_self _), isG _ put, Array.getElem?_push_size .., (by rw [es1]), AllBare.push (by rw [es1]; exact e0.bare) rfl,
    lim1.keeps fun b o e => Heap.get?_push_of_some _ e, fun b o e => Heap.get?_push_of_some _ (kp1 b o e), ?_⟩
  intro Aw S C s2 hrw hfr hS hC hSC hk2 ⟨cS, eS⟩ ⟨oC, eC, nC⟩ hos hba
  have hS' : (s1.heap.push go).objs.size ≤ S := hS
  have hC' : (s1.heap.push go).objs.size ≤ C := hC
  rw [Heap.size_push] at hS' hC'
  have e0w : Env0 P w K mg base Aw outer s H := ⟨hfr, e0.mod, e0.bs, e0.bsz, e0.funs, e0.frf, e0.hok, e0.bare⟩
  obtain ⟨t, ht, hq⟩ := hbody Aw outer s H vs Q E [(s1.heap.objs.size, go)] (hrw.deeper _) hsp
  have J1 : Inv (gcxOf P w K mg base N qual scope f cdv Aw outer s H (fun _ _ _ => False) []) [] (start N vs) H s1 := inv_startG SC hrw.hd e0w hl r x
  have J2 : Inv (gcxOf P w K mg base N qual scope f cdv Aw outer s H (fun _ _ _ => False) []) [] (start N vs) H s2 :=
    J1.call' (ch := []) (hos.trans (by rw [es1])) (Un.kept fun b o e => hk2 b o (Heap.get?_push_of_some _ e)) (J1.hok.kept fun b o e => hk2 b o (Heap.get?_push_of_some _ e)) hba fun b z => nomatch z
  have fresh : ∀ b, s1.heap.objs.size ≤ b → H b = none ∧ b ≠ s.heap.objs.size ∧ b ∉ frs outer := fun b hb => ⟨J1.hok.fresh hb, Nat.ne_of_gt (Nat.lt_of_lt_of_le lt1 hb), J1.nofs hb⟩
  have gN : ∀ v, go.data ≠ .cell v := fun v q => by rw [← hgo] at q; cases q
  have J3 : GZ (zcx P w K mg base N qual scope f cdv Aw outer s H [(s1.heap.objs.size, go)]) ⟨S, C, s1.heap.objs.size, s1.gens.size⟩ [] [] (start N vs) H s2 := by
    refine ⟨#[], cS, oC, nC, .nil, Inv.wish (Inv.pinnedG J2 fun p hp => ?_) _⟩
    simp only [List.cons_append, List.nil_append, List.mem_cons, List.not_mem_nil, or_false] at hp
    rcases hp with rfl | rfl | rfl
    · exact ⟨hk2 _ go put, (fresh _ (Nat.le_refl _)).1, (fresh _ (Nat.le_refl _)).2.1, (fresh _ (Nat.le_refl _)).2.2, gN⟩
    · have z := fresh S (Nat.le_of_succ_le hS')
      exact ⟨eS, z.1, z.2.1, z.2.2, fun v q => nomatch q⟩
    · have z := fresh C (Nat.le_of_succ_le hC')
      exact ⟨eC, z.1, z.2.1, z.2.2, nC.nc⟩
  refine seg_func ?_
  have gc : GCz (zcx P w K mg base N qual scope f cdv Aw outer s H [(s1.heap.objs.size, go)]) ⟨S, C, s1.heap.objs.size, s1.gens.size⟩ [] Aw (.func body (envOfC qual scope s.heap.objs.size f cdv)) [] id :=
    ⟨hSC, fun p hp => by
        rw [List.append_nil] at hp
        obtain rfl := List.mem_singleton.mp hp
        exact ⟨Nat.ne_of_lt (Nat.lt_of_lt_of_le (Nat.lt_succ_self _) hS'), Nat.ne_of_lt (Nat.lt_of_lt_of_le (Nat.lt_succ_self _) hC')⟩,
      fun y => by
        show (cellsFrom (s.heap.objs.size + 1) scope.names []).lookup y = none
        rw [noCells nc]
        rfl,
      rfl, ⟨go, List.mem_singleton.mpr rfl, isG⟩, fun _ _ h => h, over_func, rfl, rfl, rfl⟩
  refine ht Aw _ [] _ sizeLine [] s2 _ [] _ _ id id s2 (start N vs) H _ gc (Nat.add_zero _) (fun n zs s₀ s3 fl hn hs => ?_) J3 hq
  have fin : ∀ {τ : L2.St} {G : Hp}, GZ (zcx P w K mg base N qual scope f cdv Aw outer s H [(s1.heap.objs.size, go)]) ⟨S, C, s1.heap.objs.size, s1.gens.size⟩ [] zs τ G s3 → Q zs G → RZ P w outer H s ⟨S, C, s1.heap.objs.size, s1.gens.size⟩ Q n s₀ (.ok (.ret .none)) s3 := fun {τ G} hI hQ => by
    obtain ⟨kp, wk, as, _, _⟩ := GZ.sleep gc hI
    refine .inl ⟨.inl rfl, G, zs, by omega, ⟨wk.os, wk.bare, wk.un, wk.hok, fun p z => (nomatch z), wk.lst, wk.fr⟩, ⟨fun p z => (nomatch z), as.S, as.C⟩, hQ⟩
  cases fl with
  | next =>
    obtain ⟨τ, G, hI, hQ⟩ := hs
    exact seg_end (.ok (.ret .none)) (fin hI hQ)
  | brk => obtain ⟨_, _, _, q⟩ := hs; exact q.elim
  | cont => obtain ⟨_, _, _, q⟩ := hs; exact q.elim
  | ret v =>
    obtain ⟨y, τ, G, hI, rv, ev, hQ⟩ := hs
    subst ev
    obtain rfl : v = Value.none := rv
    exact seg_end (.ok (.ret .none)) (fin hI hQ)
end K4

/-! k05: is_name, are_names, check_none_twice of texts, _are_ratios, added. -/
namespace K5
open PySem PySem.Spec PyProof.Rows L2 LamX K1 K18

/-! two lists, item by item -/
def All2 {α β : Type} (R : α → β → Prop) (xs : List α) (ys : List β) : Prop := xs.length = ys.length ∧ ∀ (i : Nat) (x : α) (y : β), xs[i]? = some x → ys[i]? = some y → R x y
section
variable {α β : Type} {R R' : α → β → Prop} {xs : List α} {ys : List β}
theorem All2.nil : All2 R [] [] := ⟨rfl, fun i x y e => by simp at e⟩
theorem All2.mono (h : All2 R xs ys) (k : ∀ x y, R x y → R' x y) : All2 R' xs ys := ⟨h.1, fun i x y a b => k x y (h.2 i x y a b)⟩
theorem All2.snoc {x : α} {y : β} (h : All2 R xs ys) (r : R x y) : All2 R (xs ++ [x]) (ys ++ [y]) := by
  refine ⟨by simp [h.1], fun i a b ea eb => ?_⟩
  by_cases hi : i < xs.length
  · rw [List.getElem?_append_left hi] at ea
    rw [List.getElem?_append_left (by rw [← h.1]; exact hi)] at eb
    exact h.2 i a b ea eb
  · rw [List.getElem?_append_right (by omega)] at ea
    rw [List.getElem?_append_right (by rw [← h.1]; omega), ← h.1] at eb
    cases q : i - xs.length with
    | zero =>
      rw [q] at ea eb
      cases ea; cases eb
      exact r
    | succ n => rw [q] at ea; simp at ea
theorem All2.get (h : All2 R xs ys) {i : Nat} {x : α} (e : xs[i]? = some x) : ∃ y, ys[i]? = some y ∧ R x y := by
  have hi := (List.getElem?_eq_some_iff.mp e).1
  have hj : i < ys.length := by rw [← h.1]; exact hi
  exact ⟨ys[i], List.getElem?_eq_getElem hj, h.2 i x _ e (List.getElem?_eq_getElem hj)⟩
theorem All2.getR (h : All2 R xs ys) {i : Nat} {y : β} (e : ys[i]? = some y) : ∃ x, xs[i]? = some x ∧ R x y := by
  have hi := (List.getElem?_eq_some_iff.mp e).1
  have hj : i < xs.length := by rw [h.1]; exact hi
  exact ⟨xs[i], List.getElem?_eq_getElem hj, h.2 i _ y (List.getElem?_eq_getElem hj) e⟩
theorem All2.app {xs' : List α} {ys' : List β} (h : All2 R xs ys) (h' : All2 R xs' ys') : All2 R (xs ++ xs') (ys ++ ys') := by
  refine ⟨by simp [h.1, h'.1], fun i a b ea eb => ?_⟩
  by_cases hi : i < xs.length
  · rw [List.getElem?_append_left hi] at ea
    rw [List.getElem?_append_left (by rw [← h.1]; exact hi)] at eb
    exact h.2 i a b ea eb
  · rw [List.getElem?_append_right (by omega)] at ea
    rw [List.getElem?_append_right (by rw [← h.1]; omega), ← h.1] at eb
    exact h'.2 _ a b ea eb
end
theorem take_more {α : Type} {l : List α} {i : Nat} {x : α} (h : l[i]? = some x) : l.take (i + 1) = l.take i ++ [x] := by
  obtain ⟨hi, e⟩ := List.getElem?_eq_some_iff.mp h
  rw [List.take_succ_eq_append_getElem hi, e]
theorem map_at {α β : Type} {f : α → β} {l : List α} {i : Nat} {x : β} (h : (l.map f)[i]? = some x) : ∃ a, l[i]? = some a ∧ x = f a := by
  rw [List.getElem?_map] at h
  cases e : l[i]? with
  | none => rw [e] at h; cases h
  | some a => rw [e] at h; cases h; exact ⟨a, rfl, rfl⟩
theorem same_upd {H H2 : Hp} {D : Addr} {o : HO} (hD : H D = none) (s : Same H H2) : Same H (upd H2 D o) := fun a u e => by rw [upd_ne (ne_of_none e hD)]; exact s a u e

/-! ### names -/
def isL (c : Nat) : Bool := decide (97 ≤ c ∧ c ≤ 122)
def isD (c : Nat) : Bool := decide (48 ≤ c ∧ c ≤ 57)
theorem in_let (c : Nat) : decide (c ∈ (Str.ofString "abcdefghijklmnopqrstuvwxyz").cps.toList) = isL c := by
  have e : (Str.ofString "abcdefghijklmnopqrstuvwxyz").cps.toList = [97, 98, 99, 100, 101, 102, 103, 104, 105, 106, 107, 108, 109, 110, 111, 112, 113, 114, 115, 116, 117, 118, 119, 120, 121, 122] := by decide +kernel
  unfold isL
  rw [e]
  refine decide_eq_decide.mpr ?_
  simp only [List.mem_cons, List.not_mem_nil, or_false]
  omega
theorem in_dig (c : Nat) : decide (c ∈ (Str.ofString "0123456789").cps.toList) = isD c := by
  have e : (Str.ofString "0123456789").cps.toList = [48, 49, 50, 51, 52, 53, 54, 55, 56, 57] := by decide +kernel
  unfold isD
  rw [e]
  refine decide_eq_decide.mpr ?_
  simp only [List.mem_cons, List.not_mem_nil, or_false]
  omega
/-- a name -/
structure Nm (x : Str) : Prop where
  l1 : 1 ≤ x.length
  l2 : x.length ≤ 12
  hd : ∃ c, x.cps.toList[0]? = some c ∧ isL c = true
  al : ∀ c ∈ x.cps.toList, isL c = true ∨ isD c = true
structure Consts (mg : Str → Option Value) : Prop where
  dig : ∃ u, mg "DIGITS" = some u ∧ RelV (.str (Str.ofString "0123456789")) u
  let_ : ∃ u, mg "LETTERS" = some u ∧ RelV (.str (Str.ofString "abcdefghijklmnopqrstuvwxyz")) u
  s12 : ∃ u, mg "MOST_SIGNS" = some u ∧ RelV (.int 12) u
def spName : Sp := fun vs H Q _ => ∃ x, vs = [.str x] ∧ Nm x ∧ ∀ H', Same H H' → Q (.bl true) H'
def spNames : Sp := fun vs H Q _ => ∃ (a : Addr) (ns : List Str), vs = [.ref a] ∧ SqA H a (ns.map V.str) ∧ (∀ n ∈ ns, Nm n) ∧ ns.length ≤ 1000 ∧ ∀ H', Same H H' → Q (.bl true) H'
def spTwiceS : Sp := fun vs H Q _ => ∃ (a : Addr) (ns : List Str), vs = [.ref a] ∧ SqA H a (ns.map V.str) ∧ ns.length ≤ 1000 ∧ ns.Nodup ∧ ∀ H', Same H H' → Q .non H'
/-- a list of Ratios -/
structure SixL (C : Addr) (H : Hp) (a : Addr) (ss : List Int) : Prop where
  ex : ∃ as, H a = some (.lst (as.map V.ref)) ∧ All2 (Six C H) as ss
theorem SixL.same {C : Addr} {H H' : Hp} {a : Addr} {ss : List Int} (e : Same H H') (h : SixL C H a ss) : SixL C H' a ss := let ⟨as, x, y⟩ := h; ⟨as, e _ _ x, y.mono fun _ _ z => z.same e⟩
def spAre (C : Addr) : Sp := fun vs H Q _ => ∃ a ss, vs = [.ref a] ∧ SixL C H a ss ∧ ss.length ≤ 1000 ∧ ∀ H', Same H H' → Q (.bl true) H'
/-- few, none too great -/
structure Few (ss : List Int) : Prop where
  len : ss.length ≤ 100
  sm : ∀ s ∈ ss, s.natAbs < 2 ^ 50
def spAdded (C : Addr) : Sp := fun vs H Q _ => ∃ a ss, vs = [.ref a] ∧ SixL C H a ss ∧ Few ss ∧ ∀ p H', Same H H' → H p = none → Six C H' p ss.sum → Q (.ref p) H'
theorem few_sum {ss : List Int} (h : Few ss) (i : Nat) : Sm (ss.take i).sum := by
  have key : ∀ l : List Int, (∀ s ∈ l, s.natAbs < 2 ^ 50) → l.sum.natAbs ≤ l.length * 2 ^ 50 := by
    intro l
    induction l with
    | nil => intro _; simp
    | cons a r ih =>
      intro k
      have h1 := ih fun s hs => k s (List.mem_cons_of_mem _ hs)
      have h2 := k a (List.mem_cons_self ..)
      rw [List.sum_cons, List.length_cons]
      omega
  have z := key (ss.take i) fun s hs => h.sm s (List.mem_of_mem_take hs)
  have l : (ss.take i).length ≤ 100 := by rw [List.length_take]; have := h.len; omega
  show (ss.take i).sum.natAbs < 2 ^ 60
  omega
abbrev HasName (P : Program) (w : World) (K : PySem.W.Frag) (mg : Str → Option Value) (base : Heap) : Prop := Has P w K mg base CX0 1 "is_name" ["value"] spName
abbrev HasNames (P : Program) (w : World) (K : PySem.W.Frag) (mg : Str → Option Value) (base : Heap) : Prop := Has P w K mg base CX0 2 "are_names" ["value"] spNames
abbrev HasTwiceS (P : Program) (w : World) (K : PySem.W.Frag) (mg : Str → Option Value) (base : Heap) : Prop := Has P w K mg base CX0 1 "check_none_twice" ["items"] spTwiceS
abbrev HasAre (P : Program) (w : World) (K : PySem.W.Frag) (mg : Str → Option Value) (base : Heap) (C : Addr) : Prop := Has P w K mg base CX0 3 "_are_ratios" ["value"] (spAre C)
abbrev HasAdded (P : Program) (w : World) (K : PySem.W.Frag) (mg : Str → Option Value) (base : Heap) (C : Addr) : Prop := Has P w K mg base CX0 6 "added" ["ratios"] (spAdded C)
theorem all_true (n : Nat) : (List.replicate n true).all id = true := by induction n <;> simp_all [List.replicate]
theorem rep_snoc (n : Nat) (D : Addr) (H : Hp) : upd H D (.lst (List.replicate n (V.bl true) ++ [V.bl true])) = upd H D (.lst (List.replicate (n + 1) (V.bl true))) := by rw [List.replicate_succ']
section
variable {P : Program} {w : World} {K : PySem.W.Frag} {mg : Str → Option Value} {base : Heap} {f C : Addr} {fd : FuncData}
theorem scName : FnScope ["value", "sign"] ["value"] (defScope sName) := ⟨rfl, rfl, rfl, by decide +kernel, rfl, by decide +kernel, by decide +kernel⟩
theorem ok_name (G : Glob mg) (CO : Consts mg) (F : DefAt K "is_name" "is_name" sName f fd) : FnOk P w K mg base CX0 1 f fd ["value"] spName := by
  obtain ⟨ud, gd, rd⟩ := CO.dig
  obtain ⟨ul, gl, rl⟩ := CO.let_
  obtain ⟨u6, g6, r6⟩ := CO.s12
  refine okN F scName (fun vs H Q E ⟨v, e, _⟩ => by rw [e]; rfl) (fun cdv A outer s H vs Q E hr ⟨x, e, n, q⟩ => ?_)
  subst e
  refine ⟨_, pss_cons (ps_if (PW.pt (pw_or (pt_not (pt_val (pe_callB call_isi (by rfl) G.isi (by decide +kernel) (pa_cons (pv 0) (pa_cons (pe_bltn (by rfl) G.str (by decide +kernel) (v := .ty "str") rfl) pa_nil)))))
      (pw_or1 (pt_not (pt_chain op_le op_le pe_int (pe_callB call_len_str (by rfl) G.len PySem.boot_len (pa_cons (pv 0) pa_nil)) (pe_glob (v := .int 12) rfl g6 r6)))))) pss_dead pss_nil)
    (pss_one (ps_ret (pe_and (pe_cmpR op_in_sign (pe_ix ix_str (pv 0) pe_int (fun _ _ => rfl)) (pe_glob (v := .str (Str.ofString "abcdefghijklmnopqrstuvwxyz")) rfl gl rl) rfl)
      (pe_one (pe_callB (cr_all rfl) (by rfl) G.all (by decide +kernel) (pa_cons
          (pe_lc (own := [("sign", 1)]) (g := gName 1) (tt := tYes) rfl scName.nd (pi_str (pv 0)) (blkOk_by (N := ["value", "sign"]) (sc := defScope sName) (by decide +kernel))
            (fun _ _ _ _ _ => pg_name (i := 1) scName.nd rfl (Or.inl rfl)) (fun _ _ _ _ _ => pts_nil) (fun _ _ _ _ _ => pe_or (pe_cmpR op_in_sign (pv 1) (pe_glob (v := .str (Str.ofString "abcdefghijklmnopqrstuvwxyz")) rfl gl rl) rfl) (pe_one (pe_cmpR op_in_sign (pv 1) (pe_glob (v := .str (Str.ofString "0123456789")) rfl gd rd) rfl)))) pa_nil)))))), ?_⟩
  have sz : sizeLine = 16777216 := sizeLine_eq
  have l1 := n.l1
  have l2 := n.l2
  refine ⟨_, rfl, _, _, _, _, _, rfl, .ty "str", .base (.str x), kit_ty (a := "str") (b := "str") (r := true) (by decide +kernel), true, rfl, iteF ?_⟩
  refine ⟨_, rfl, _, rfl, (by omega), _, _, rfl, rfl, true, congrArg V.bl (decide_eq_true (show (1 : Int) ≤ (x.length : Int) by omega)), iteT ⟨_, _, rfl, rfl, true, congrArg V.bl (decide_eq_true (show (x.length : Int) ≤ 12 by omega)), iteF ?_⟩⟩
  obtain ⟨c, hc, lc⟩ := n.hd
  refine ⟨_, rfl, _, 0, c, rfl, rfl, (by omega), atI_nat (j := 0) hc, c, _, rfl, rfl, true, congrArg V.bl (by rw [in_let, lc]), iteT ?_⟩
  refine ⟨_, rfl, _, rfl, fun D hD => ?_⟩
  refine lc_it walk_str (fun i H2 => Same H H2 ∧ H2 D = some (.lst (List.replicate i (V.bl true)))) ⟨upd_new hD, upd_same⟩ (fun _ _ _ _ => trivial) ?_ ?_
  · rintro i y H2 H3 hi ⟨s2, h2⟩ ⟨rfl, d, hd, rfl⟩
    have md : d ∈ x.cps.toList := List.mem_of_getElem? (i := i) (by simpa using hd)
    have li : i < x.length := hi
    have fin : ∃ acc, H3 D = some (.lst acc) ∧ acc.length < sizeLine ∧ (Same H (upd H3 D (.lst (acc ++ [V.bl true]))) ∧ upd H3 D (.lst (acc ++ [V.bl true])) D = some (.lst (List.replicate (i + 1) (V.bl true)))) :=
      ⟨_, h2, by rw [List.length_replicate]; omega, same_upd hD s2, by rw [rep_snoc, upd_same]⟩
    refine ⟨rfl, yes_of ⟨_, rfl, d, _, rfl, rfl, isL d, congrArg V.bl (in_let d), ?_⟩⟩
    cases e : isL d with
    | true => exact iteT fin
    | false =>
      refine iteF ⟨_, rfl, d, _, rfl, rfl, ?_⟩
      rw [in_dig, (n.al d md).resolve_left (by rw [e]; exact Bool.false_ne_true)]
      exact fin
  · rintro H2 ⟨s2, h2⟩
    refine ⟨D, List.replicate _ true, rfl, SqL.of (by rw [h2, List.map_replicate]), ?_⟩
    rw [all_true]
    exact q H2 s2
theorem scNames : FnScope ["value", "item"] ["value"] (defScope sAreNames) := ⟨rfl, rfl, rfl, by decide +kernel, rfl, by decide +kernel, by decide +kernel⟩
theorem ok_names (G : Glob mg) (HN : HasName P w K mg base) (HL : HasListed P w K mg base) (F : DefAt K "are_names" "are_names" sAreNames f fd) : FnOk P w K mg base CX0 2 f fd ["value"] spNames := by
  obtain ⟨fi, fdi, mI, kI, bI, GI⟩ := HN.h
  obtain ⟨fl, fdl, mL, kL, bL, GL⟩ := HL.h
  refine okN F scNames (fun vs H Q E ⟨a, ns, e, _⟩ => by rw [e]; rfl) (fun cdv A outer s H vs Q E hr ⟨a, ns, e, sq, al, hl, q⟩ => ?_)
  subst e
  refine ⟨_, pss_one (ps_ret (pe_and (pe_call GL hr rfl mL kL bL .nil pass0 (pa_cons (pv 0) pa_nil))
        (pe_one (pe_callB (cr_all rfl) (by rfl) G.all (by decide +kernel) (pa_cons
          (pe_lc (own := [("item", 1)]) (g := gName 1) (tt := tYes) rfl scNames.nd (pi_seq (pv 0)) (blkOk_by (N := ["value", "item"]) (sc := defScope sAreNames) (by decide +kernel))
            (fun _ _ _ _ _ => pg_name (i := 1) scNames.nd rfl (Or.inl rfl)) (fun _ _ _ _ _ => pts_nil) (fun _ _ _ _ _ => pe_call GI hr rfl mI kI bI .nil pass0 (pa_cons (pv 1) pa_nil))) pa_nil))))), ?_⟩
  have sz : sizeLine = 16777216 := sizeLine_eq
  refine ⟨_, rfl, _, rfl, .inr ⟨a, _, rfl, sq, fun H1 s1 => ⟨true, rfl, iteT ?_⟩⟩⟩
  refine ⟨_, rfl, a, rfl, ?_⟩
  refine lc_seqA (sq.same s1) fun D hD => ⟨fun i H2 => Same H1 H2 ∧ H2 D = some (.lst (List.replicate i (V.bl true))), ⟨upd_new hD, upd_same⟩, fun i H2 _ z => ?_, ?_, ?_⟩
  · obtain ⟨o, e⟩ := (sq.same s1).there
    rw [e, z.1 _ _ e]
  · rintro i x H2 hx ⟨s2, h2⟩
    obtain ⟨n, hn, rfl⟩ := map_at hx
    have li := (List.getElem?_eq_some_iff.mp hn).1
    refine ⟨rfl, yes_of ⟨_, rfl, n, rfl, al n (List.mem_of_getElem? hn), fun H3 s3 => ?_⟩⟩
    exact ⟨_, s3 _ _ h2, by rw [List.length_replicate]; omega, same_upd hD (s2.trans s3), by rw [rep_snoc, upd_same]⟩
  · rintro H2 ⟨s2, h2⟩
    refine ⟨D, List.replicate _ true, rfl, SqL.of (by rw [h2, List.map_replicate]), ?_⟩
    rw [all_true]
    exact q H2 (s1.trans s2)
theorem ok_twiceS (F : DefAt K "check_none_twice" "check_none_twice" sNoneTwice f fd) : FnOk P w K mg base CX0 1 f fd ["items"] spTwiceS := by
  refine okN F scTwice (fun vs H Q E ⟨a, ns, e, _⟩ => by rw [e]; rfl) (fun cdv A outer s H vs Q E hr ⟨a, ns, e, sq, hl, nd, q⟩ => ?_)
  subst e
  have hu := hu_of hr
  refine ⟨_, pss_cons (ps_set (i := 1) scTwice.nd rfl (Or.inl rfl) pe_dnewK) (pss_one (ps_for PassesOwn.never rfl (pi_seq (pv 0)) (pg_name (i := 2) scTwice.nd rfl (Or.inl rfl))
    (pss_cons (ps_if (pt_cmp (pc_din hu (pv 2) (pv 1))) pss_dead pss_nil)
    (pss_one (ps_dput hu (pv 1) (pv 2) pe_bl rfl))))), ?_⟩
  have sz : sizeLine = 16777216 := sizeLine_eq
  intro M hM
  have sM := upd_new (o := .dK []) hM
  have aM : a ≠ M := sq.ne hM
  refine ⟨_, rfl, a, rfl, ?_⟩
  refine for_seqA (sq.same sM) (fun i σ H2 => ∃ (kvs : List (Key × V)) (z : Option V), σ = [some (.ref a), some (.ref M), z] ∧ H2 = upd H M (.dK kvs) ∧ kvs.length ≤ i ∧ ∀ n : Str, valV kvs (Sum.inr n) = if n ∈ ns.take i then some (.bl true) else none)
    ⟨[], none, rfl, rfl, Nat.zero_le _, fun n => by simp [valV_nil]⟩ ?_ ?_ ?_
  · rintro i σ' H' _ ⟨kvs, z, _, rfl, _⟩
    rw [upd_ne aM, upd_ne aM]
  · rintro i x σ H2 hx ⟨kvs, z, rfl, rfl, lk, val⟩
    obtain ⟨n, hn, rfl⟩ := map_at hx
    have hi := (List.getElem?_eq_some_iff.mp hn).1
    refine ⟨_, rfl, _, rfl, M, _, rfl, DGet.k (k := Sum.inr n) upd_same, _, rfl, ?_⟩
    have hm : n ∉ ns.take i := fun m => by
      have z : (ns.take (i + 1)).Nodup := nd.sublist (List.take_sublist _ _)
      rw [take_more hn] at z
      exact (List.nodup_append.mp z).2.2 n m n (by simp) rfl
    rw [val n, if_neg hm]
    refine iteF ⟨_, rfl, _, rfl, M, _, rfl, DPut.k (k := Sum.inr n) upd_same (by omega), ?_⟩
    refine ⟨putK kvs (Sum.inr n) (.bl true), _, rfl, by rw [upd_upd], Nat.le_trans putK_len (by omega), fun j => ?_⟩
    rw [valV_put, val j, take_more hn]
    by_cases e : j = n
    · subst e; simp
    · simp [e]
  · rintro σ H2 ⟨kvs, z, rfl, rfl, lk, val⟩
    exact q _ (upd_new hM)
theorem scAre : FnScope ["value", "item"] ["value"] (defScope sAreRatios) := ⟨rfl, rfl, rfl, by decide +kernel, rfl, by decide +kernel, by decide +kernel⟩
theorem ok_are (G : Glob mg) (HL : HasListed P w K mg base) (HQ : HasIsR P w K mg base C) (F : DefAt K "_are_ratios" "_are_ratios" sAreRatios f fd) : FnOk P w K mg base CX0 3 f fd ["value"] (spAre C) := by
  obtain ⟨fq, fdq, mQ, kQ, bQ, GQ⟩ := HQ.h
  obtain ⟨fl, fdl, mL, kL, bL, GL⟩ := HL.h
  refine okN F scAre (fun vs H Q E ⟨a, ss, e, _⟩ => by rw [e]; rfl) (fun cdv A outer s H vs Q E hr ⟨a, ss, e, ⟨as, ha, al⟩, hl, q⟩ => ?_)
  subst e
  refine ⟨_, pss_one (ps_ret (pe_and (pe_call GL (hr.mono (by decide)) rfl mL kL bL .nil pass0 (pa_cons (pv 0) pa_nil))
        (pe_one (pe_callB (cr_all rfl) (by rfl) G.all (by decide +kernel) (pa_cons
          (pe_lc (own := [("item", 1)]) (g := gName 1) (tt := tYes) rfl scAre.nd (pi_seq (pv 0)) (blkOk_by (N := ["value", "item"]) (sc := defScope sAreRatios) (by decide +kernel))
            (fun _ _ _ _ _ => pg_name (i := 1) scAre.nd rfl (Or.inl rfl)) (fun _ _ _ _ _ => pts_nil) (fun _ _ _ _ _ => pe_call GQ hr rfl mQ kQ bQ .nil pass0 (pa_cons (pv 1) pa_nil))) pa_nil))))), ?_⟩
  have sz : sizeLine = 16777216 := sizeLine_eq
  have sq : SqA H a (as.map V.ref) := .inl ha
  refine ⟨_, rfl, _, rfl, .inr ⟨a, _, rfl, sq, fun H1 s1 => ⟨true, rfl, iteT ?_⟩⟩⟩
  refine ⟨_, rfl, a, rfl, ?_⟩
  refine lc_seqA (sq.same s1) fun D hD => ⟨fun i H2 => Same H1 H2 ∧ H2 D = some (.lst (List.replicate i (V.bl true))), ⟨upd_new hD, upd_same⟩, fun i H2 _ z => ?_, ?_, ?_⟩
  · obtain ⟨o, e⟩ := (sq.same s1).there
    rw [e, z.1 _ _ e]
  · rintro i x H2 hx ⟨s2, h2⟩
    obtain ⟨p, hp, rfl⟩ := map_at hx
    obtain ⟨n, hn, r⟩ := al.get hp
    have li := (List.getElem?_eq_some_iff.mp hn).1
    refine ⟨rfl, yes_of ⟨_, rfl, _, n, rfl, .inl ⟨p, rfl, r.same (s1.trans s2)⟩, ?_⟩⟩
    exact ⟨_, h2, by rw [List.length_replicate]; omega, same_upd hD s2, by rw [rep_snoc, upd_same]⟩
  · rintro H2 ⟨s2, h2⟩
    refine ⟨D, List.replicate _ true, rfl, SqL.of (by rw [h2, List.map_replicate]), ?_⟩
    rw [all_true]
    exact q H2 (s1.trans s2)
theorem seq_asg {te : TE} {g : TG} {T : TS} {D : Ends} {σ : L2.St} {H : Hp} (h : te σ H fun v H1 => g v σ H1 (T D)) : tSeq (tAsg te g) T D σ H := h
theorem mk_int {C : Addr} {σ : L2.St} {H : Hp} {n : Int} {Q : VK} {E : XK} (hn : n.natAbs < 2 ^ 100) (q : NewS C H (6 * n) Q) : tMake C (spRI C) [V.int 1] E (tCons (tC (V.int n)) tNil) σ H Q := mk_one hn q
/-- an own operator of a class -/
structure Own (P : Program) (w : World) (K : PySem.W.Frag) (mg : Str → Option Value) (base : Heap) (C : Addr) (CX : CXT) (k : Nat) (nm : Str) (ps : List Str) (sp : Sp) : Prop where
  h : ∃ f fd, OwnM K C nm f ∧ Binds K fd ps [] ∧ FnOk P w K mg base CX k f fd ps sp
/-- + of the class, with itself at the right -/
structure AddO (P : Program) (w : World) (K : PySem.W.Frag) (mg : Str → Option Value) (base : Heap) (C : Addr) (CX : CXT) (k : Nat) (sp : Sp) : Prop where
  o : Own P w K mg base C CX k "__add__" ["self", "other"] sp
  sf : PySem.W.selfFirst K C = true
  nr : PySem.W.findIn K (.ref C) (dunderR Operator.Add.info.2) = some none
theorem scAdded : FnScope ["ratios", "total", "ratio"] ["ratios"] (defScope sAdded) := ⟨rfl, rfl, rfl, by decide +kernel, rfl, by decide +kernel, by decide +kernel⟩
theorem ok_added (R : RatF K C) (HA : HasAre P w K mg base C) (MR : MkR P w K mg base C) (OA : AddO P w K mg base C CX0 5 (spSum C)) (F : DefAt K "added" "added" sAdded f fd) : FnOk P w K mg base CX0 6 f fd ["ratios"] (spAdded C) := by
  obtain ⟨fa, fda, mA, kA, bA, GA⟩ := HA.h
  obtain ⟨fm, fdm, ds, M, GM, _, hv, bM⟩ := MR.m
  obtain ⟨fo, fdo, MO, bO, GO⟩ := OA.o.h
  refine okN F scAdded (fun vs H Q E ⟨a, ss, e, _⟩ => by rw [e]; rfl) (fun cdv A outer s H vs Q E hr ⟨a, ss, e, sl, fw, q⟩ => ?_)
  subst e
  refine ⟨_, pss_cons (ps_if (pt_not (pt_val (pe_call GA (hr.mono (by decide)) rfl mA kA bA .nil pass0 (pa_cons (pv 0) pa_nil)))) pss_dead pss_nil)
    (pss_cons (ps_set (i := 1) scAdded.nd rfl (Or.inl rfl) (pe_make M GM (hr.mono (by decide)) rfl MR.g bM hv pass0 (pa_cons pe_int pa_nil)))
    (pss_cons (ps_for PassesOwn.never rfl (pi_seq (pv 0)) (pg_name (i := 2) scAdded.nd rfl (Or.inl rfl)) (pss_one (ps_set (i := 1) scAdded.nd rfl (Or.inl rfl) (pe_op (op_own (op := .Add) MO OA.sf OA.nr GO hr bO pass0) (pv 1) (pv 2)))))
    (pss_one (ps_ret (pv 1))))), ?_⟩
  have l := fw.len
  refine ⟨_, rfl, a, ss, rfl, sl, by omega, fun H1 s1 => ⟨true, rfl, iteF ?_⟩⟩
  dsimp only [tNext]
  refine seq_asg ?_
  refine mk_int (by decide) fun p H2 s2 np hp => ?_
  have s02 := s1.trans s2
  obtain ⟨as, ha, al⟩ := sl.same s02
  refine ⟨_, rfl, a, rfl, ?_⟩
  refine for_seqA (.inl ha) (fun i σ H3 => ∃ p' v', σ = [some (.ref a), some (.ref p'), v'] ∧ Same H2 H3 ∧ H p' = none ∧ Six C H3 p' (ss.take i).sum) ⟨p, none, rfl, Same.refl _, s1.free np, hp⟩ (fun i σ H3 _ z => by obtain ⟨_, _, _, s3, _⟩ := z; rw [s3 _ _ ha, ha]) ?_ ?_
  · rintro i x σ H3 hx ⟨p', v', rfl, s3, np', i1⟩
    obtain ⟨b, hb, rfl⟩ := map_at hx
    obtain ⟨n, hn, r⟩ := al.get hb
    obtain ⟨dy, at1⟩ := id i1
    have sn := fw.sm n (List.mem_of_getElem? hn)
    obtain ⟨dz, at2⟩ := r.same s3
    refine ⟨_, rfl, _, rfl, p', dy, _, rfl, at1, .inl ⟨b, dz, _, rfl, at2⟩, p', .ref b, _, n, rfl, i1, .inl ⟨b, rfl, r.same s3⟩, few_sum fw i, by show n.natAbs < 2 ^ 60; omega, fun p2 H4 s4 np2 hp2 => ?_⟩
    refine ⟨p2, some (.ref b), rfl, s3.trans s4, (s02.trans s3).free np2, ?_⟩
    rw [take_more hn, List.sum_append, List.sum_singleton]
    exact hp2
  · rintro σ H3 ⟨p', v', rfl, s3, np', i1⟩
    rw [List.length_map, al.1, List.take_length] at i1
    exact ⟨_, rfl, q p' H3 (s02.trans s3) np' i1⟩
end
end K5

/-! k05: hand-overs as objects. -/
namespace K5
open PySem PySem.Spec PyProof.Rows L2 LamX K1 K18

/-- all but what stands at p stays -/
def Keep (p : Addr) (H H' : Hp) : Prop := ∀ c o, c ≠ p → H c = some o → H' c = some o
theorem Keep.refl (p : Addr) (H : Hp) : Keep p H H := fun _ _ _ e => e
theorem Keep.trans {p : Addr} {H H1 H2 : Hp} (a : Keep p H H1) (b : Keep p H1 H2) : Keep p H H2 := fun c o n e => b c o n (a c o n e)
theorem Same.keep {p : Addr} {H H' : Hp} (s : Same H H') : Keep p H H' := fun c o _ e => s c o e
theorem Keep.upd {p : Addr} {H : Hp} {o : HO} : Keep p H (upd H p o) := fun c u n e => by rw [upd_ne n]; exact e
theorem fsR_ne (t b : Int) : fsR t b ≠ [] := fun z => by have := fsR_top t b; rw [z] at this; cases this
theorem Six.ne {C CH : Addr} {H : Hp} {a x dx : Addr} {s : Int} (h : Six C H a s) (hx : H x = some (.ins CH dx [])) : a ≠ x := by
  rintro rfl
  obtain ⟨dy, h⟩ := h
  rw [hx] at h
  injection h with h
  injection h with _ _ h
  exact fsR_ne _ _ h.symm
theorem SixV.keep {C CH : Addr} {H H' : Hp} {v : V} {x dx : Addr} {s : Int} (h : SixV C H v s) (hx : H x = some (.ins CH dx [])) (k : Keep x H H') : SixV C H' v s := by
  rcases h with ⟨a, e, r⟩ | h
  · have n := r.ne hx
    obtain ⟨dy, r⟩ := r
    exact .inl ⟨a, e, dy, k _ _ n r⟩
  · exact .inr h
/-- one hand-over, its worths in sixths -/
structure Hnd where
  g : Str
  t : Str
  c : Int
  d : Int
  deriving DecidableEq
structure HnOk (h : Hnd) : Prop where
  ng : Nm h.g
  nt : Nm h.t
  ne : h.g ≠ h.t
  c0 : 0 ≤ h.c
  d0 : 0 ≤ h.d
  cs : h.c.natAbs < 2 ^ 50
  ds : h.d.natAbs < 2 ^ 50
def Hnd.back (h : Hnd) : Hnd := ⟨h.t, h.g, h.d, h.c⟩
theorem HnOk.back {h : Hnd} (k : HnOk h) : HnOk h.back := ⟨k.nt, k.ng, Ne.symm k.ne, k.d0, k.c0, k.ds, k.cs⟩
def Hnd.eff (h : Hnd) (n : Str) : Int := if n = h.g then -h.c else if n = h.t then h.d else 0
theorem eff_sm {h : Hnd} (k : HnOk h) (n : Str) : (h.eff n).natAbs < 2 ^ 50 := by
  unfold Hnd.eff
  have := k.cs
  have := k.ds
  split
  · omega
  · split <;> omega
/-! its attributes -/
theorem n_tg : ¬ (("taker" : Str) = "giver") := by decide +kernel
theorem n_cg : ¬ (("cost" : Str) = "giver") := by decide +kernel
theorem n_ct : ¬ (("cost" : Str) = "taker") := by decide +kernel
theorem n_gg : ¬ (("gain" : Str) = "giver") := by decide +kernel
theorem n_gt : ¬ (("gain" : Str) = "taker") := by decide +kernel
theorem n_gc : ¬ (("gain" : Str) = "cost") := by decide +kernel
def fh1 (g : Str) : List (Str × V) := putF "giver" (.str g) []
def fh2 (g t : Str) : List (Str × V) := putF "taker" (.str t) (fh1 g)
def fh3 (g t : Str) (c : Addr) : List (Str × V) := putF "cost" (.ref c) (fh2 g t)
def fsH (g t : Str) (c d : Addr) : List (Str × V) := putF "gain" (.ref d) (fh3 g t c)
section
variable (g t : Str) (c d : Addr)
theorem fh_g : (fsH g t c d).lookup ("giver" : Str) = some (.str g) := by unfold fsH fh3 fh2 fh1; rw [lookup_putF, if_neg (Ne.symm n_gg), lookup_putF, if_neg (Ne.symm n_cg), lookup_putF, if_neg (Ne.symm n_tg), lookup_putF, if_pos rfl]
theorem fh_t : (fsH g t c d).lookup ("taker" : Str) = some (.str t) := by unfold fsH fh3 fh2; rw [lookup_putF, if_neg (Ne.symm n_gt), lookup_putF, if_neg (Ne.symm n_ct), lookup_putF, if_pos rfl]
theorem fh_c : (fsH g t c d).lookup ("cost" : Str) = some (.ref c) := by unfold fsH fh3; rw [lookup_putF, if_neg (Ne.symm n_gc), lookup_putF, if_pos rfl]
theorem fh_d : (fsH g t c d).lookup ("gain" : Str) = some (.ref d) := by unfold fsH; rw [lookup_putF, if_pos rfl]
theorem fh_no {m : Str} (h1 : ¬ (m = "giver")) (h2 : ¬ (m = "taker")) (h3 : ¬ (m = "cost")) (h4 : ¬ (m = "gain")) : (fsH g t c d).lookup m = none := by
  unfold fsH fh3 fh2 fh1
  rw [lookup_putF, if_neg h4, lookup_putF, if_neg h3, lookup_putF, if_neg h2, lookup_putF, if_neg h1]
  rfl
theorem fh_len1 : (fh1 g).length < 1000 := by show 1 < 1000; decide
theorem fh_len2 : (fh2 g t).length < 1000 := by show 2 < 1000; decide
theorem fh_len3 : (fh3 g t c).length < 1000 := by show 3 < 1000; decide
end
/-- at a stands the HandOver h -/
def HandAt (C CH : Addr) (H : Hp) (a : Addr) (h : Hnd) : Prop := ∃ dx pc pd, H a = some (.ins CH dx (fsH h.g h.t pc pd)) ∧ Six C H pc h.c ∧ Six C H pd h.d
theorem HandAt.same {C CH : Addr} {H H' : Hp} {a : Addr} {h : Hnd} (s : Same H H') (k : HandAt C CH H a h) : HandAt C CH H' a h := let ⟨dx, pc, pd, x, y, z⟩ := k; ⟨dx, pc, pd, s _ _ x, y.same s, z.same s⟩
structure HandF (K : PySem.W.Frag) (C : Addr) : Prop extends ClsF K C where
  nG : NoAttr K C "giver"
  nT : NoAttr K C "taker"
  nC : NoAttr K C "cost"
  nD : NoAttr K C "gain"
def spHInit (C CH : Addr) : Sp := fun vs H Q _ => ∃ (x dx : Addr) (h : Hnd) (vc vd : V), vs = [.ref x, .str h.g, .str h.t, vc, vd] ∧ H x = some (.ins CH dx []) ∧ HnOk h ∧ SixV C H vc h.c ∧ SixV C H vd h.d ∧
  ∀ H', Keep x H H' → HandAt C CH H' x h → Q .non H'
def spRet (C CH : Addr) : Sp := fun vs H Q _ => ∃ a h, vs = [.ref a] ∧ HandAt C CH H a h ∧ HnOk h ∧ ∀ p H', Same H H' → H p = none → HandAt C CH H' p h.back → Q (.ref p) H'
def spEff (C CH : Addr) : Sp := fun vs H Q _ => ∃ a h n, vs = [.ref a, .str n] ∧ HandAt C CH H a h ∧ HnOk h ∧ ∀ p H', Same H H' → Six C H' p (h.eff n) → Q (.ref p) H'
def spHEq (C CH : Addr) : Sp := fun vs H Q _ => ∃ a b h k, vs = [.ref a, .ref b] ∧ HandAt C CH H a h ∧ HandAt C CH H b k ∧ Q (.bl (decide (h = k))) H
/-- HandOver(e, ..) -/
structure MkH (P : Program) (w : World) (K : PySem.W.Frag) (mg : Str → Option Value) (base : Heap) (C CH : Addr) : Prop where
  g : mg "HandOver" = some (.ref CH)
  m : ∃ f fd, Mk K CH f ∧ FnOk P w K mg base CX0 7 f fd ["self", "giver", "taker", "cost", "gain"] (spHInit C CH) ∧ Binds K fd ["self", "giver", "taker", "cost", "gain"] []
theorem mk_hand {C CH : Addr} {H : Hp} {h : Hnd} {vc vd : V} {Q : VK} {E : XK} (k : HnOk h) (sc : SixV C H vc h.c) (sd : SixV C H vd h.d) (q : ∀ p H', Same H H' → H p = none → HandAt C CH H' p h → Q (.ref p) H') :
    ∀ x dx, H x = none → H dx = none → dx ≠ x → spHInit C CH [.ref x, .str h.g, .str h.t, vc, vd] (upd (upd H dx (.own x)) x (.ins CH dx [])) (fun v H2 => v = .non ∧ Q (.ref x) H2) E := fun x dx hx hd ne => by
  have s1 : Same H (upd (upd H dx (.own x)) x (.ins CH dx [])) := fun o u e => by rw [upd_ne (ne_of_none e hx), upd_ne (ne_of_none e hd)]; exact e
  exact ⟨x, dx, h, vc, vd, rfl, upd_same, k, sc.same s1, sd.same s1, fun H' kp ha => ⟨rfl, q x H' (fun o u e => kp o u (ne_of_none e hx) (s1 o u e)) hx ha⟩⟩
section
variable {P : Program} {w : World} {K : PySem.W.Frag} {mg : Str → Option Value} {base : Heap} {f C CH : Addr} {fd : FuncData}
abbrev HasAmount (P : Program) (w : World) (K : PySem.W.Frag) (mg : Str → Option Value) (base : Heap) (C : Addr) : Prop := Has P w K mg base CX0 6 "is_amount" ["value"] (spAmount C)
abbrev nHI : List Str := ["self", "giver", "taker", "cost", "gain"]
theorem scHI : FnScope nHI nHI (defScope sHInit) := ⟨rfl, rfl, rfl, by decide +kernel, rfl, by decide +kernel, by decide +kernel⟩
theorem ok_hinit (R : HandF K CH) (HN : HasName P w K mg base) (HA : HasAmount P w K mg base C) (RM : RatM P w K mg base C) (F : DefAt K "__init__" "HandOver.__init__" sHInit f fd) : FnOk P w K mg base CX0 7 f fd nHI (spHInit C CH) := by
  obtain ⟨fn, fdn, mN, kN, bN, GN⟩ := HN.h
  obtain ⟨fa, fda, mA, kA, bA, GA⟩ := HA.h
  obtain ⟨fo, fdo, MO, bO, GO⟩ := RM.of
  refine okN F scHI (fun vs H Q E ⟨x, dx, h, vc, vd, e, _⟩ => by rw [e]; rfl) (fun cdv A outer s H vs Q E hr ⟨x, dx, h, vc, vd, e, hx, k, sc, sd, q⟩ => ?_)
  subst e
  have r1 := hr.mono (show 1 ≤ 6 by decide)
  have r5 := hr.mono (show 5 ≤ 6 by decide)
  refine ⟨_, pss_cons (ps_if (pt_not (pt_val (pe_call GN r1 rfl mN kN bN .nil pass0 (pa_cons (pv 1) pa_nil)))) pss_dead pss_nil)
    (pss_cons (ps_if (PW.pt (pw_or (pt_not (pt_val (pe_call GN r1 rfl mN kN bN .nil pass0 (pa_cons (pv 2) pa_nil)))) (pw_or1 (pt_cmpR op_eq (pv 2) (pv 1) (nomark _))))) pss_dead pss_nil)
    (pss_cons (ps_if (pt_not (pt_val (pe_call GA hr rfl mA kA bA .nil pass0 (pa_cons (pv 3) pa_nil)))) pss_dead pss_nil)
    (pss_cons (ps_if (pt_not (pt_val (pe_call GA hr rfl mA kA bA .nil pass0 (pa_cons (pv 4) pa_nil)))) pss_dead pss_nil)
    (pss_cons (ps_fld (pv 0) (pv 1) rfl)
    (pss_cons (ps_fld (pv 0) (pv 2) rfl)
    (pss_cons (ps_fld (pv 0) (pe_smeth (pe_glob (v := .ref C) rfl RM.g rfl) RM.r MO GO r5 bO pass0 (pa_cons (pv 3) pa_nil)) rfl)
    (pss_one (ps_fld (pv 0) (pe_smeth (pe_glob (v := .ref C) rfl RM.g rfl) RM.r MO GO r5 bO pass0 (pa_cons (pv 4) pa_nil)) rfl)))))))), ?_⟩
  refine ⟨_, rfl, _, rfl, k.ng, fun H1 s1 => ⟨true, rfl, iteF ?_⟩⟩
  refine ⟨_, rfl, _, rfl, k.nt, fun H2 s2 => ⟨true, rfl, iteF ?_⟩⟩
  refine ⟨_, rfl, _, rfl, rfl, false, by rw [decS, decide_eq_false (Ne.symm k.ne)], iteF ?_⟩
  have s02 := s1.trans s2
  refine ⟨_, rfl, _, h.c, rfl, sc.same s02, by have := k.cs; show h.c.natAbs < 2 ^ 60; omega, k.c0, fun H3 s3 => ⟨true, rfl, iteF ?_⟩⟩
  have s03 := s02.trans s3
  refine ⟨_, rfl, _, h.d, rfl, sd.same s03, by have := k.ds; show h.d.natAbs < 2 ^ 60; omega, k.d0, fun H4 s4 => ⟨true, rfl, iteF ?_⟩⟩
  have s04 := s03.trans s4
  have h4 := s04 _ _ hx
  refine ⟨_, rfl, _, rfl, x, CH, dx, [], rfl, h4, R.cl, R.nG, (by show 0 < 1000; decide), ?_⟩
  refine ⟨_, rfl, _, rfl, x, CH, dx, fh1 h.g, rfl, upd_same, R.cl, R.nT, fh_len1 _, ?_⟩
  rw [upd_upd]
  have k5 : Keep x H (upd H4 x (.ins CH dx (fh2 h.g h.t))) := fun b o n e => by rw [upd_ne n]; exact s04 _ _ e
  have x5 : upd H4 x (.ins CH dx (fh2 h.g h.t)) x = some (.ins CH dx (fh2 h.g h.t)) := upd_same
  show tSeq _ _ _ _ (upd H4 x (.ins CH dx (fh2 h.g h.t)))
  generalize upd H4 x (.ins CH dx (fh2 h.g h.t)) = H5 at k5 x5 ⊢
  have six5 := (sc.keep hx k5)
  refine ⟨rfl, _, rfl, _, h.c, rfl, six5, by have := k.cs; show h.c.natAbs < 2 ^ 60; omega, fun pc H6 s6 hpc => ?_⟩
  have x6 := s6 _ _ x5
  have k6 : Keep x H H6 := k5.trans (Same.keep s6)
  refine ⟨_, rfl, x, CH, dx, fh2 h.g h.t, rfl, x6, R.cl, R.nC, fh_len2 _ _, ?_⟩
  have npc : pc ≠ x := by
    rintro rfl
    obtain ⟨dy, z⟩ := hpc
    rw [x6] at z
    injection z with z
    injection z with _ _ z
    have := fsR_top (rT h.c 6) (rB h.c 6)
    rw [← show fh2 h.g h.t = fsR (rT h.c 6) (rB h.c 6) from z] at this
    unfold fh2 fh1 at this
    rw [lookup_putF, if_neg (by decide +kernel), lookup_putF, if_neg (by decide +kernel)] at this
    cases this
  have k7 : Keep x H (upd H6 x (.ins CH dx (fh3 h.g h.t pc))) := fun b o n e => by rw [upd_ne n]; exact k6 _ _ n e
  have x7 : upd H6 x (.ins CH dx (fh3 h.g h.t pc)) x = some (.ins CH dx (fh3 h.g h.t pc)) := upd_same
  have hpc7 : Six C (upd H6 x (.ins CH dx (fh3 h.g h.t pc))) pc h.c := let ⟨dy, z⟩ := hpc; ⟨dy, by rw [upd_ne npc]; exact z⟩
  refine ⟨rfl, _, rfl, _, h.d, rfl, sd.keep hx k7, by have := k.ds; show h.d.natAbs < 2 ^ 60; omega, fun pd H8 s8 hpd => ?_⟩
  have x8 := s8 _ _ x7
  have k8 : Keep x H H8 := k7.trans (Same.keep s8)
  refine ⟨_, rfl, x, CH, dx, fh3 h.g h.t pc, rfl, x8, R.cl, R.nD, fh_len3 _ _ _, ?_⟩
  have npd : pd ≠ x := by
    rintro rfl
    obtain ⟨dy, z⟩ := hpd
    rw [x8] at z
    injection z with z
    injection z with _ _ z
    have := fsR_top (rT h.d 6) (rB h.d 6)
    rw [← show fh3 h.g h.t pc = fsR (rT h.d 6) (rB h.d 6) from z] at this
    unfold fh3 fh2 fh1 at this
    rw [lookup_putF, if_neg (by decide +kernel), lookup_putF, if_neg (by decide +kernel), lookup_putF, if_neg (by decide +kernel)] at this
    cases this
  refine q _ (fun b o n e => by rw [upd_ne n]; exact k8 _ _ n e) ⟨dx, pc, pd, upd_same, ?_, ?_⟩
  · obtain ⟨dy, z⟩ := hpc7.same s8
    exact ⟨dy, by rw [upd_ne npc]; exact z⟩
  · obtain ⟨dy, z⟩ := hpd
    exact ⟨dy, by rw [upd_ne npd]; exact z⟩
theorem scHR : FnScope ["self"] ["self"] (defScope sHRet) := ⟨rfl, rfl, rfl, by decide +kernel, rfl, by decide +kernel, by decide +kernel⟩
theorem ok_hret (R : HandF K CH) (M : MkH P w K mg base C CH) (F : DefAt K "returned" "HandOver.returned" sHRet f fd) : FnOk P w K mg base CX0 9 f fd ["self"] (spRet C CH) := by
  obtain ⟨fm, fdm, Mm, GM, bM⟩ := M.m
  refine okN F scHR (fun vs H Q E ⟨a, h, e, _⟩ => by rw [e]; rfl) (fun cdv A outer s H vs Q E hr ⟨a, h, e, ha, k, q⟩ => ?_)
  subst e
  refine ⟨_, pss_one (ps_ret (pe_make Mm GM hr rfl M.g bM .nil pass0 (pa_cons (pe_fld (pv 0) rfl) (pa_cons (pe_fld (pv 0) rfl) (pa_cons (pe_fld (pv 0) rfl) (pa_cons (pe_fld (pv 0) rfl) pa_nil)))))), ?_⟩
  obtain ⟨dx, pc, pd, h1, sc, sd⟩ := ha
  refine ⟨_, rfl, a, CH, dx, _, _, rfl, h1, R.cl, R.nT, fh_t _ _ _ _, _, rfl, a, CH, dx, _, _, rfl, h1, R.cl, R.nG, fh_g _ _ _ _, _, rfl, a, CH, dx, _, _, rfl, h1, R.cl, R.nD, fh_d _ _ _ _, _, rfl, a, CH, dx, _, _, rfl, h1, R.cl, R.nC, fh_c _ _ _ _, ?_⟩
  exact mk_hand (h := h.back) k.back (.inl ⟨pd, rfl, sd⟩) (.inl ⟨pc, rfl, sc⟩) q
theorem scHE : FnScope ["self", "name"] ["self", "name"] (defScope sHEff) := ⟨rfl, rfl, rfl, by decide +kernel, rfl, by decide +kernel, by decide +kernel⟩
theorem ok_heff (R : HandF K CH) (ON : Own P w K mg base C CX0 4 "__neg__" ["self"] (spNeg C)) (MR : MkR P w K mg base C) (F : DefAt K "effect" "HandOver.effect" sHEff f fd) : FnOk P w K mg base CX0 5 f fd ["self", "name"] (spEff C CH) := by
  obtain ⟨fn, fdn, MN, bN, GN⟩ := ON.h
  obtain ⟨fm, fdm, ds, M, GM, _, hv, bM⟩ := MR.m
  refine okN F scHE (fun vs H Q E ⟨a, h, n, e, _⟩ => by rw [e]; rfl) (fun cdv A outer s H vs Q E hr ⟨a, h, n, e, ha, k, q⟩ => ?_)
  subst e
  refine ⟨_, pss_cons (ps_if (pt_cmpR op_eq (pv 1) (pe_fld (pv 0) rfl) (nomark _)) (pss_one (ps_ret (pe_un (un_own MN GN hr bN pass0) (pe_fld (pv 0) rfl)))) pss_nil)
    (pss_cons (ps_if (pt_cmpR op_eq (pv 1) (pe_fld (pv 0) rfl) (nomark _)) (pss_one (ps_ret (pe_fld (pv 0) rfl))) pss_nil)
    (pss_one (ps_ret (pe_make M GM (hr.mono (by decide)) rfl MR.g bM hv pass0 (pa_cons pe_int pa_nil))))), ?_⟩
  obtain ⟨dx, pc, pd, h1, sc, sd⟩ := ha
  have hcs := k.cs
  refine ⟨_, rfl, _, rfl, a, CH, dx, _, _, rfl, h1, R.cl, R.nG, fh_g _ _ _ _, rfl, decide (n = h.g), by rw [decS], ?_⟩
  unfold Hnd.eff at q
  by_cases e1 : n = h.g
  · rw [decide_eq_true e1]
    rw [if_pos e1] at q
    obtain ⟨dy, z⟩ := id sc
    exact iteT ⟨_, rfl, a, CH, dx, _, _, rfl, h1, R.cl, R.nC, fh_c _ _ _ _, pc, dy, _, rfl, z, pc, h.c, rfl, sc, by show h.c.natAbs < 2 ^ 60; omega, fun p H' s' np hp => q p H' s' hp⟩
  · rw [decide_eq_false e1]
    rw [if_neg e1] at q
    refine iteF ⟨_, rfl, _, rfl, a, CH, dx, _, _, rfl, h1, R.cl, R.nT, fh_t _ _ _ _, rfl, decide (n = h.t), by rw [decS], ?_⟩
    by_cases e2 : n = h.t
    · rw [decide_eq_true e2]
      rw [if_pos e2] at q
      exact iteT ⟨_, rfl, a, CH, dx, _, _, rfl, h1, R.cl, R.nD, fh_d _ _ _ _, q pd H (Same.refl H) sd⟩
    · rw [decide_eq_false e2]
      rw [if_neg e2] at q
      refine iteF ?_
      exact mk_one (n := 0) (by decide) fun p H' s' np hp => q p H' s' hp
theorem scHQ : FnScope ["self", "other"] ["self", "other"] (defScope sHEq) := ⟨rfl, rfl, rfl, by decide +kernel, rfl, by decide +kernel, by decide +kernel⟩
/-- == of a class among its own -/
structure EqO (P : Program) (w : World) (K : PySem.W.Frag) (mg : Str → Option Value) (base : Heap) (C : Addr) (k : Nat) (sp : Sp) : Prop where
  o : Own P w K mg base C CX0 k "__eq__" ["self", "other"] sp
  nf : PySem.W.notFirst K C (.ref C) = true
theorem ok_heq (G : Glob mg) (R : HandF K CH) (RR : RatF K C) (gH : mg "HandOver" = some (.ref CH)) (OE : EqO P w K mg base C 1 (spREq C)) (F : DefAt K "__eq__" "HandOver.__eq__" sHEq f fd) : FnOk P w K mg base CX0 2 f fd ["self", "other"] (spHEq C CH) := by
  obtain ⟨fe, fde, ME, bE, GE⟩ := OE.o.h
  refine okN F scHQ (fun vs H Q E ⟨a, b, h, k, e, _⟩ => by rw [e]; rfl) (fun cdv A outer s H vs Q E hr ⟨a, b, h, k, e, ha, hb, q⟩ => ?_)
  subst e
  refine ⟨_, pss_cons (ps_if (PW.pt (pw_or (pt_not (pt_val (pe_callB call_isi (by rfl) G.isi (by decide +kernel) (pa_cons (pv 1) (pa_cons (pe_glob (v := .ref CH) rfl gH rfl) pa_nil)))))
      (pw_or (pt_cmpR op_ne (pe_fld (pv 0) rfl) (pe_fld (pv 1) rfl) (nomark _)) (pw_or1 (pt_cmpR op_ne (pe_fld (pv 0) rfl) (pe_fld (pv 1) rfl) (nomark _)))))) (pss_one (ps_ret pe_bl)) pss_nil)
    (pss_one (ps_ret (pe_and (pe_cmpR (op_eqO ME GE hr bE pass0) (pe_fld (pv 0) rfl) (pe_fld (pv 1) rfl) (nomark _)) (pe_one (pe_cmpR (op_eqO ME GE hr bE pass0) (pe_fld (pv 0) rfl) (pe_fld (pv 1) rfl) (nomark _)))))), ?_⟩
  obtain ⟨dx, pc, pd, h1, sc, sd⟩ := ha
  obtain ⟨dy, qc, qd, h2, tc, td⟩ := hb
  refine ⟨_, rfl, _, _, _, _, _, rfl, .own CH, .base (R.ty h2), R.me, true, rfl, iteF ?_⟩
  refine ⟨_, rfl, a, CH, dx, _, _, rfl, h1, R.cl, R.nG, fh_g _ _ _ _, _, rfl, b, CH, dy, _, _, rfl, h2, R.cl, R.nG, fh_g _ _ _ _, rfl, !decide (h.g = k.g), by rw [decS], ?_⟩
  by_cases e1 : h.g = k.g
  · rw [decide_eq_true e1]
    refine iteF ⟨_, rfl, a, CH, dx, _, _, rfl, h1, R.cl, R.nT, fh_t _ _ _ _, _, rfl, b, CH, dy, _, _, rfl, h2, R.cl, R.nT, fh_t _ _ _ _, rfl, !decide (h.t = k.t), by rw [decS], ?_⟩
    by_cases e2 : h.t = k.t
    · rw [decide_eq_true e2]
      obtain ⟨ex, x1⟩ := id sc
      obtain ⟨ey, y1⟩ := id tc
      obtain ⟨gx, x2⟩ := id sd
      obtain ⟨gy, y2⟩ := id td
      refine iteF ⟨_, rfl, a, CH, dx, _, _, rfl, h1, R.cl, R.nC, fh_c _ _ _ _, _, rfl, b, CH, dy, _, _, rfl, h2, R.cl, R.nC, fh_c _ _ _ _, pc, ex, _, _, rfl, x1, RR.ty y1, OE.nf, pc, qc, h.c, k.c, rfl, sc, tc, _, rfl, ?_⟩
      by_cases e3 : h.c = k.c
      · rw [decide_eq_true e3]
        refine iteT ⟨_, rfl, a, CH, dx, _, _, rfl, h1, R.cl, R.nD, fh_d _ _ _ _, _, rfl, b, CH, dy, _, _, rfl, h2, R.cl, R.nD, fh_d _ _ _ _, pd, gx, _, _, rfl, x2, RR.ty y2, OE.nf, pd, qd, h.d, k.d, rfl, sd, td, ?_⟩
        rw [decide_eq_decide.mpr (show h = k ↔ h.d = k.d from ⟨fun z => by rw [z], fun z => by cases h; cases k; simp_all⟩)] at q
        exact q
      · rw [decide_eq_false e3]
        rw [decide_eq_false (show ¬ h = k from fun z => e3 (by rw [z]))] at q
        exact iteF q
    · rw [decide_eq_false e2]
      rw [decide_eq_false (show ¬ h = k from fun z => e2 (by rw [z]))] at q
      exact iteT q
  · rw [decide_eq_false e1]
    rw [decide_eq_false (show ¬ h = k from fun z => e1 (by rw [z]))] at q
    exact iteT q
end
end K5

/-! k05: swaps as objects; their making. -/
namespace K5
open PySem PySem.Spec PyProof.Rows L2 LamX K1 K18

/-! a text among texts -/
theorem eqv_S (a b : Str) : eqV (.str a) (.str b) = decide (a = b) := by
  show (a == b) = _
  by_cases h : a = b
  · rw [decide_eq_true h, h]; simp
  · rw [decide_eq_false h]; simpa using h
theorem inV_S (n : Str) (ns : List Str) : inV (.str n) (ns.map V.str) = decide (n ∈ ns) := by
  unfold inV
  induction ns with
  | nil => simp
  | cons a r ih =>
    rw [List.map_cons, List.any_cons, ih, eqv_S, Bool.eq_iff_iff, Bool.or_eq_true, decide_eq_true_iff, decide_eq_true_iff, decide_eq_true_iff, List.mem_cons]
    exact or_congr eq_comm Iff.rfl
theorem flat_S (ns : List Str) : (ns.map V.str).all flatV = true := by rw [List.all_map]; exact List.all_eq_true.mpr fun _ _ => rfl
/-! ### its attributes -/
theorem n_hs : ¬ (("hands" : Str) = "strangers") := by decide +kernel
theorem n_ns : ¬ (("nets" : Str) = "strangers") := by decide +kernel
theorem n_nh : ¬ (("nets" : Str) = "hands") := by decide +kernel
def fs1 (p : Addr) : List (Str × V) := putF "strangers" (.ref p) []
def fs2 (p h : Addr) : List (Str × V) := putF "hands" (.ref h) (fs1 p)
def fsS (p h n : Addr) : List (Str × V) := putF "nets" (.ref n) (fs2 p h)
section
variable (p h n : Addr)
theorem fs_s : (fsS p h n).lookup ("strangers" : Str) = some (.ref p) := by unfold fsS fs2 fs1; rw [lookup_putF, if_neg (Ne.symm n_ns), lookup_putF, if_neg (Ne.symm n_hs), lookup_putF, if_pos rfl]
theorem fs_h : (fsS p h n).lookup ("hands" : Str) = some (.ref h) := by unfold fsS fs2; rw [lookup_putF, if_neg (Ne.symm n_nh), lookup_putF, if_pos rfl]
theorem fs_n : (fsS p h n).lookup ("nets" : Str) = some (.ref n) := by unfold fsS; rw [lookup_putF, if_pos rfl]
end
/-- what one has had at the end -/
def net (hs : List Hnd) (n : Str) : Int := ((hs.filter fun h => decide (n = h.g) || decide (n = h.t)).map fun h => h.eff n).sum
structure SwOk (ns : List Str) (hs : List Hnd) : Prop where
  n2 : 2 ≤ ns.length
  n6 : ns.length ≤ 6
  nd : ns.Nodup
  nm : ∀ n ∈ ns, Nm n
  hk : ∀ h ∈ hs, HnOk h ∧ h.g ∈ ns ∧ h.t ∈ ns
/-- the hand-overs of a list, a tuple -/
abbrev Hands (C CH : Addr) (H : Hp) (as : List Addr) (hs : List Hnd) : Prop := All2 (HandAt C CH H) as hs
theorem Hands.same {C CH : Addr} {H H' : Hp} {as : List Addr} {hs : List Hnd} (s : Same H H') (h : Hands C CH H as hs) : Hands C CH H' as hs := h.mono fun _ _ z => z.same s
/-- a tuple just made, its record known: no dict -/
def TupZ (H : Hp) (p : Addr) (xs : List V) : Prop := ∃ o : Obj, H p = some (.frz o (.tup xs)) ∧ o.dict = none
theorem TupZ.same {H H' : Hp} {p : Addr} {xs : List V} (s : Same H H') (h : TupZ H p xs) : TupZ H' p xs := let ⟨o, a, b⟩ := h; ⟨o, s _ _ a, b⟩
theorem TupZ.sq {K : PySem.W.Frag} {H : Hp} {p : Addr} {xs : List V} (h : TupZ H p xs) : SqT K H p xs := let ⟨o, a, _⟩ := h; .inl (.inr ⟨o, a⟩)
theorem TupZ.ne {H : Hp} {p x C dx : Addr} {fs : List (Str × V)} {xs : List V} (h : TupZ H p xs) (hx : H x = some (.ins C dx fs)) : p ≠ x := by
  rintro rfl
  obtain ⟨o, a, _⟩ := h
  rw [hx] at a
  cases a
theorem TupZ.keep {H H' : Hp} {p x : Addr} {xs : List V} (h : TupZ H p xs) (n : p ≠ x) (k : Keep x H H') : TupZ H' p xs := let ⟨o, a, b⟩ := h; ⟨o, k _ _ n a, b⟩
/-- at a stands Swap(ns, hs) -/
def SwAt (C CH CS : Addr) (H : Hp) (a : Addr) (ns : List Str) (hs : List Hnd) : Prop := ∃ dx ps ph pn as nas, H a = some (.ins CS dx (fsS ps ph pn)) ∧ TupZ H ps (ns.map V.str) ∧ H ph = some (.tup (as.map V.ref)) ∧ Hands C CH H as hs ∧
  H pn = some (.tup (nas.map V.ref)) ∧ All2 (Six C H) nas (ns.map (net hs))
theorem SwAt.same {C CH CS : Addr} {H H' : Hp} {a : Addr} {ns : List Str} {hs : List Hnd} (s : Same H H') (h : SwAt C CH CS H a ns hs) : SwAt C CH CS H' a ns hs :=
  let ⟨dx, ps, ph, pn, as, nas, h1, h2, h3, h4, h5, h6⟩ := h
  ⟨dx, ps, ph, pn, as, nas, s _ _ h1, h2.same s, s _ _ h3, h4.same s, s _ _ h5, h6.mono fun _ _ z => z.same s⟩
structure SwapF (K : PySem.W.Frag) (C : Addr) : Prop extends ClsF K C where
  nS : NoAttr K C "strangers"
  nH : NoAttr K C "hands"
  nN : NoAttr K C "nets"
  cr : ClX.CRead K C (.type "type")
  m6 : ∃ u, ClX.CVal K C (.type "type") "MOST_STRANGERS" (.int 6) u
  m40 : ∃ u, ClX.CVal K C (.type "type") "MOST_HANDS" (.int 40) u
theorem fsH_ne (g t : Str) (c d : Addr) : fsH g t c d ≠ [] := fun z => by have := fh_d g t c d; rw [z] at this; cases this
theorem HandAt.keep {C CH CS : Addr} {H H' : Hp} {a x dx : Addr} {h : Hnd} (k : HandAt C CH H a h) (hx : H x = some (.ins CS dx [])) (s : Keep x H H') : HandAt C CH H' a h := by
  obtain ⟨dy, pc, pd, h1, h2, h3⟩ := k
  have na : a ≠ x := by
    rintro rfl
    rw [hx] at h1
    injection h1 with h1
    injection h1 with _ _ h1
    exact fsH_ne _ _ _ _ h1.symm
  have n2 := h2.ne hx
  have n3 := h3.ne hx
  obtain ⟨d2, h2⟩ := h2
  obtain ⟨d3, h3⟩ := h3
  exact ⟨dy, pc, pd, s _ _ na h1, ⟨d2, s _ _ n2 h2⟩, ⟨d3, s _ _ n3 h3⟩⟩
theorem Hands.keep {C CH CS : Addr} {H H' : Hp} {as : List Addr} {x dx : Addr} {hs : List Hnd} (k : Hands C CH H as hs) (hx : H x = some (.ins CS dx [])) (s : Keep x H H') : Hands C CH H' as hs := k.mono fun _ _ z => z.keep hx s
theorem sqa_keep {H H' : Hp} {a x C dx : Addr} {fs : List (Str × V)} {xs : List V} (q : SqA H a xs) (hx : H x = some (.ins C dx fs)) (s : Keep x H H') : SqA H' a xs := by
  rcases q with q | q
  · exact .inl (s _ _ (ne_of q hx (fun z => nomatch z)) q)
  · exact .inr (s _ _ (ne_of q hx (fun z => nomatch z)) q)
def spParties (C CH : Addr) : Sp := fun vs H Q _ => ∃ (a : Addr) (h : Hnd) (b : Addr) (ns : List Str), vs = [.ref a, .ref b] ∧ HandAt C CH H a h ∧ SqA H b (ns.map V.str) ∧ h.g ∈ ns ∧ h.t ∈ ns ∧ ∀ H', Same H H' → Q .non H'
def spNetOf (C CH : Addr) : Sp := fun vs H Q _ => ∃ (b : Addr) (as : List Addr) (hs : List Hnd) (n : Str), vs = [.ref b, .str n] ∧ SqA H b (as.map V.ref) ∧ Hands C CH H as hs ∧ (∀ h ∈ hs, HnOk h) ∧ hs.length ≤ 100 ∧ ∀ p H', Same H H' → H p = none → Six C H' p (net hs n) → Q (.ref p) H'
section
variable {P : Program} {w : World} {K : PySem.W.Frag} {mg : Str → Option Value} {base : Heap} {f C CH CS : Addr} {fd : FuncData}
theorem scPa : FnScope ["hand", "strangers", "name"] ["hand", "strangers"] (defScope sParties) := ⟨rfl, rfl, rfl, by decide +kernel, rfl, by decide +kernel, by decide +kernel⟩
theorem ok_parties (R : HandF K CH) (F : DefAt K "_check_parties" "_check_parties" sParties f fd) : FnOk P w K mg base CX0 1 f fd ["hand", "strangers"] (spParties C CH) := by
  refine okN F scPa (fun vs H Q E ⟨a, h, b, ns, e, _⟩ => by rw [e]; rfl) (fun cdv A outer s H vs Q E hr ⟨a, h, b, ns, e, ha, sq, m1, m2, q⟩ => ?_)
  subst e
  refine ⟨_, pss_one (ps_for PassesOwn.never rfl (pi_seq (pe_tup (pa_cons (pe_fld (pv 0) rfl) (pa_cons (pe_fld (pv 0) rfl) pa_nil)))) (pg_name (i := 2) scPa.nd rfl (Or.inl rfl))
    (pss_one (ps_if (pt_cmpR op_notIn_seq (pv 2) (pv 1) (by rfl)) pss_dead pss_nil))), ?_⟩
  obtain ⟨dx, pc, pd, h1, sc, sd⟩ := ha
  refine ⟨_, rfl, a, CH, dx, _, _, rfl, h1, R.cl, R.nG, fh_g _ _ _ _, _, rfl, a, CH, dx, _, _, rfl, h1, R.cl, R.nT, fh_t _ _ _ _, (by show 2 ≤ sizeLine; decide), fun t nt => ?_⟩
  have s1 := upd_new (o := .tup [V.str h.g, .str h.t]) nt
  have ht : upd H t (.tup [V.str h.g, .str h.t]) t = some (.tup [V.str h.g, .str h.t]) := upd_same
  generalize upd H t (.tup [V.str h.g, .str h.t]) = H1 at s1 ht ⊢
  refine ⟨t, rfl, ?_⟩
  refine for_seqA (xs := [V.str h.g, .str h.t]) (.inr ht) (fun i σ H2 => H2 = H1 ∧ ∃ z, σ = [some (.ref a), some (.ref b), z]) ⟨rfl, none, rfl⟩ (fun i σ' H' _ z => by rw [z.1]) ?_ ?_
  · rintro i x σ H2 hx ⟨rfl, z, rfl⟩
    obtain ⟨n, rfl, mn⟩ : ∃ n, x = .str n ∧ n ∈ ns := by
      match i, hx with
      | 0, hx => cases hx; exact ⟨_, rfl, m1⟩
      | 1, hx => cases hx; exact ⟨_, rfl, m2⟩
      | i + 2, hx => simp at hx
    refine ⟨_, rfl, _, rfl, b, _, rfl, (sq.same s1).imp SqL.of SqT.of, rfl, flat_S ns, false, ?_, iteF ⟨rfl, _, rfl⟩⟩
    rw [inV_S, decide_eq_true mn]
    rfl
  · rintro σ H2 ⟨rfl, z, rfl⟩
    exact q _ s1
theorem scNet : FnScope ["hands", "name", "hand"] ["hands", "name"] (defScope sNetOf) := ⟨rfl, rfl, rfl, by decide +kernel, rfl, by decide +kernel, by decide +kernel⟩
/-- x.effect(name) -/
structure EffM (P : Program) (w : World) (K : PySem.W.Frag) (mg : Str → Option Value) (base : Heap) (C CH : Addr) : Prop where
  h : ∃ f fd, Meth K CH "effect" f ∧ Binds K fd ["self", "name"] [] ∧ FnOk P w K mg base CX0 5 f fd ["self", "name"] (spEff C CH)
theorem no_eff (g t : Str) (c d : Addr) : (fsH g t c d).lookup ("effect" : Str) = none := fh_no _ _ _ _ (by decide +kernel) (by decide +kernel) (by decide +kernel) (by decide +kernel)
theorem ok_netOf (R : HandF K CH) (EM : EffM P w K mg base C CH) (HA : HasAdded P w K mg base C) (F : DefAt K "_net_of" "_net_of" sNetOf f fd) : FnOk P w K mg base CX0 7 f fd ["hands", "name"] (spNetOf C CH) := by
  obtain ⟨fe, fde, Me, bE, GE⟩ := EM.h
  obtain ⟨fa, fda, mA, kA, bA, GA⟩ := HA.h
  refine okN F scNet (fun vs H Q E ⟨b, as, hs, n, e, _⟩ => by rw [e]; rfl) (fun cdv A outer s H vs Q E hr ⟨b, as, hs, n, e, sq, hh, ok, l, q⟩ => ?_)
  subst e
  refine ⟨_, pss_one (ps_ret (pe_call GA hr rfl mA kA bA .nil pass0 (pa_cons
    (pe_lc (own := [("hand", 2)]) (g := gName 2) rfl scNet.nd (pi_seq (pv 0)) (blkOk_by (N := ["hands", "name", "hand"]) (sc := defScope sNetOf) (by decide +kernel))
      (fun _ _ _ _ _ => pg_name (i := 2) scNet.nd rfl (Or.inl rfl)) (fun _ _ _ _ _ => pts_one (pt_cmpR (r := rIn K false) op_in_seq (pv 1) (pe_tup (pa_cons (show PE _ _ (tFld K (tVar 2) "giver") from pe_fld (pv 2) rfl) (pa_cons (show PE _ _ (tFld K (tVar 2) "taker") from pe_fld (pv 2) rfl) pa_nil))) (by rfl)))
      (fun _ _ _ _ _ => pe_meth (pv 2) R.cl Me GE (hr.mono (by decide)) bE .nil pass0 (pa_cons (pv 1) pa_nil))) pa_nil))), ?_⟩
  have sz : sizeLine = 16777216 := sizeLine_eq
  refine ⟨_, rfl, b, rfl, ?_⟩
  refine lc_seqA sq fun D hD => ⟨fun i H2 => Same H H2 ∧ SixL C H2 D (((hs.take i).filter fun h => decide (n = h.g) || decide (n = h.t)).map fun h => h.eff n), ⟨upd_new hD, [], upd_same, .nil⟩, fun i H2 _ z => ?_, ?_, ?_⟩
  · obtain ⟨o, e⟩ := sq.there
    rw [e, z.1 _ _ e]
  · rintro i x H2 hx ⟨s2, sl2⟩
    obtain ⟨a, ha, rfl⟩ := map_at hx
    obtain ⟨h, eh, hat⟩ := hh.get ha
    have li := (List.getElem?_eq_some_iff.mp eh).1
    have hat2 := hat.same s2
    obtain ⟨dx, pc, pd, h1, _, _⟩ := id hat2
    refine ⟨rfl, _, rfl, _, rfl, a, CH, dx, _, _, rfl, h1, R.cl, R.nG, fh_g _ _ _ _, _, rfl, a, CH, dx, _, _, rfl, h1, R.cl, R.nT, fh_t _ _ _ _, (by show 2 ≤ sizeLine; decide), fun t nt => ?_⟩
    have s3 := upd_new (o := .tup ([V.str h.g, .str h.t])) nt
    have ht : upd H2 t (.tup [V.str h.g, .str h.t]) t = some (.tup [V.str h.g, .str h.t]) := upd_same
    generalize upd H2 t (.tup [V.str h.g, .str h.t]) = H3 at s3 ht ⊢
    · refine ⟨t, [h.g, h.t].map V.str, rfl, .inr (SqT.of ht), rfl, flat_S _, decide (n = h.g) || decide (n = h.t), ?_, ?_⟩
      · rw [inV_S]; simp
      · have sl3 := sl2.same s3
        have step : (hs.take (i + 1)).filter (fun h => decide (n = h.g) || decide (n = h.t)) = (hs.take i).filter (fun h => decide (n = h.g) || decide (n = h.t)) ++ if (decide (n = h.g) || decide (n = h.t)) = true then [h] else [] := by
          rw [take_more eh, List.filter_append, List.filter_cons, List.filter_nil]
        cases c : decide (n = h.g) || decide (n = h.t) with
        | false =>
          rw [c] at step
          refine iteF ⟨s2.trans s3, ?_⟩
          rw [step]
          simpa using sl3
        | true =>
          rw [c] at step
          have h13 := s3 _ _ h1
          refine iteT ⟨_, rfl, a, dx, _, rfl, h13, no_eff _ _ _ _, _, rfl, a, h, n, rfl, hat2.same s3, ok h (List.mem_of_getElem? eh), fun p H4 s4 hp => ?_⟩
          obtain ⟨ps, hd, al⟩ := sl3.same s4
          refine ⟨_, hd, ?_, same_upd hD ((s2.trans s3).trans s4), ps ++ [p], by rw [upd_same, List.map_append]; rfl, ?_⟩
          · have : ps.length ≤ 100 := by
              rw [al.1, List.length_map]
              refine Nat.le_trans (List.length_filter_le _ _) ?_
              rw [List.length_take]; omega
            rw [List.length_map]; omega
          · have nD : ∀ b', Six C H4 b' (h.eff n) → b' ≠ D := fun b' ⟨dy, z⟩ => ne_of z hd (fun z => nomatch z)
            rw [step]
            simp only [if_true, List.map_append, List.map_cons, List.map_nil]
            refine All2.snoc (al.mono fun u v z => ?_) ?_
            · obtain ⟨dy, z⟩ := z
              exact ⟨dy, by rw [upd_ne (ne_of z hd (fun z => nomatch z))]; exact z⟩
            · obtain ⟨dy, z⟩ := hp
              exact ⟨dy, by rw [upd_ne (ne_of z hd (fun z => nomatch z))]; exact z⟩
  · rintro H2 ⟨s2, sl2⟩
    rw [List.length_map, hh.1, List.take_length] at sl2
    refine ⟨D, _, rfl, sl2, ⟨?_, fun x hx => ?_⟩, fun p H3 s3 np hp => q p H3 (s2.trans s3) (s2.free np) hp⟩
    · rw [List.length_map]; exact Nat.le_trans (List.length_filter_le _ _) l
    · obtain ⟨h, hm, rfl⟩ := List.mem_map.mp hx
      exact eff_sm (ok h (List.mem_filter.mp hm).1) n
end
end K5

/-! k05: Swap.__init__. -/
namespace K5
open PySem PySem.Spec PyProof.Rows L2 LamX K1 K18

/-- len(a list or a tuple) -/
def rLenA (K : PySem.W.Frag) : List V → Hp → VK → Prop := fun xs H Q => ∃ p ys, xs = [V.ref p] ∧ (SqL K H p ys ∨ SqT K H p ys) ∧ Q (.int (ys.length : Nat)) H
theorem call_lenA {X : Cx} {K : PySem.W.Frag} (hK : X.K = K) : CallR X (.builtin "len") (rLenA K) := by
  subst hK
  exact fun pins s σ H xs us Q I r ⟨p, ys, e, h, q⟩ => call_len_seq pins s σ H xs us Q I r ⟨p, ys, e, h, q⟩
/-- tuple(x), in any context of the written part K -/
def rTupK (K : PySem.W.Frag) : List V → Hp → VK → Prop := fun xs H Q => ∃ p ys, xs = [V.ref p] ∧ ((SqL K H p ys ∧ ∀ l, H l = none → Q (.ref l) (upd H l (.tup ys))) ∨ (SqT K H p ys ∧ Q (.ref p) H))
theorem call_tupK {X : Cx} {K : PySem.W.Frag} (hK : X.K = K) : CallR X (.type "tuple") (rTupK K) := by
  subst hK
  exact fun pins s σ H xs us Q I r h => call_tuple_of pins s σ H xs us Q I r h
theorem tup_any {K : PySem.W.Frag} {H : Hp} {b : Addr} {xs : List V} {Q : VK} (sq : SqA H b xs) (go : ∀ t H1, Same H H1 → H1 t = some (.tup xs) → Q (.ref t) H1) : rTupK K [.ref b] H Q := by
  refine ⟨b, xs, rfl, ?_⟩
  rcases sq with q | q
  · exact .inl ⟨SqL.of q, fun l nl => go l _ (upd_new nl) upd_same⟩
  · exact .inr ⟨SqT.of q, go b H (Same.refl _) q⟩
/-- x.f = tuple(y) -/
theorem fld_tup {K : PySem.W.Frag} {i : Nat} {x b : Addr} {f : Str} {xs : List V} {D : Ends} {σ : L2.St} {H : Hp} (h0 : σ[0]? = some (some (.ref x))) (hi : σ[i]? = some (some (.ref b))) (sq : SqA H b xs)
    (go : ∀ t H1, Same H H1 → H1 t = some (.tup xs) → ∃ C dx fs, H1 x = some (.ins C dx fs) ∧ Cls K C ∧ NoAttr K C f ∧ fs.length < 1000 ∧ D.nx σ (upd H1 x (.ins C dx (putF f (.ref t) fs)))) :
    sFld K (tVar 0) (tCB (rTupK K) (tCons (tVar i) tNil)) f D σ H := by
  refine ⟨_, hi, ?_⟩
  show rTupK K [.ref b] H (fun y H1 => tVar 0 σ H1 fun x H2 => ∃ a C dx fs, x = .ref a ∧ H2 a = some (.ins C dx fs) ∧ Cls K C ∧ NoAttr K C f ∧ fs.length < 1000 ∧ D.nx σ (upd H2 a (.ins C dx (putF f y fs))))
  refine tup_any sq fun t H1 s h => ?_
  obtain ⟨C, dx, fs, a1, a2, a3, a4, a5⟩ := go t H1 s h
  exact ⟨_, h0, x, C, dx, fs, rfl, a1, a2, a3, a4, a5⟩
/-- tuple(x) of a list, its record known -/
def rTupZ (K : PySem.W.Frag) : List V → Hp → VK → Prop := fun xs H Q => ∃ p ys, xs = [V.ref p] ∧ SqL K H p ys ∧ ∀ (l : Addr) (o : Obj), H l = none → o.dict = none → Q (.ref l) (upd H l (.frz o (.tup ys)))
theorem call_tupZ {X : Cx} {K : PySem.W.Frag} (hK : X.K = K) : CallR X (.type "tuple") (rTupZ K) := by
  subst hK
  intro pins s σ H xs us Q I r ⟨p, ys, exs, hq, q⟩
  subst exs
  cases r with
  | cons rx rr =>
    cases rr
    cases rx
    obtain ⟨its, r', pl, hz⟩ := I.list hq
    have hlen := r'.length
    refine call_tuple_list pl.isList (fun g kp => ?_) (by simp only [List.size_toArray] <;> omega)
    have J : Inv X pins σ H { s with heap := g } := I.kept (t' := s.toks) kp
    have at_ : (g.push { cls := .type "tuple", data := .seq its.toArray }).get? g.objs.size = some { cls := .type "tuple", data := .seq its.toArray } := Heap.get?_push_size _ rfl
    refine ⟨.ref g.objs.size, _, J.laid (t' := s.toks) (o := .frz { cls := .type "tuple", data := .seq its.toArray } (.tup ys)) (fun b o e => Heap.get?_push_of_some _ e) (Nat.le_refl _) ⟨at_, hz, its, r', IsTup.new _ _⟩, rfl, q _ _ (J.hok.fresh (Nat.le_refl _)) rfl⟩
/-- x.f = tuple(y), y a list -/
theorem fld_tupZ {K : PySem.W.Frag} {i : Nat} {x b : Addr} {f : Str} {xs : List V} {D : Ends} {σ : L2.St} {H : Hp} (h0 : σ[0]? = some (some (.ref x))) (hi : σ[i]? = some (some (.ref b))) (sq : H b = some (.lst xs))
    (go : ∀ t H1, Same H H1 → TupZ H1 t xs → ∃ C dx fs, H1 x = some (.ins C dx fs) ∧ Cls K C ∧ NoAttr K C f ∧ fs.length < 1000 ∧ D.nx σ (upd H1 x (.ins C dx (putF f (.ref t) fs)))) :
    sFld K (tVar 0) (tCB (rTupZ K) (tCons (tVar i) tNil)) f D σ H := by
  refine ⟨_, hi, b, xs, rfl, SqL.of sq, fun t o nt od => ?_⟩
  obtain ⟨C, dx, fs, a1, a2, a3, a4, a5⟩ := go t _ (upd_new nt) ⟨o, upd_same, od⟩
  exact ⟨_, h0, x, C, dx, fs, rfl, a1, a2, a3, a4, a5⟩
/-- the errors' dict, its fields -/
abbrev fTooMany : List (Str × V) := [("most", .int 40), ("what", .str "hands")]
/-- the errors' fields told, all that was there there -/
def spSInit (C CH CS CM : Addr) : Sp := fun vs H Q E => ∃ (x dx sa ha : Addr) (ns : List Str) (as : List Addr) (hs : List Hnd), vs = [.ref x, .ref sa, .ref ha] ∧ H x = some (.ins CS dx []) ∧ H sa = some (.lst (ns.map V.str)) ∧ SqA H ha (as.map V.ref) ∧ Hands C CH H as hs ∧ SwOk ns hs ∧ hs.length ≤ 100 ∧
  (hs.length ≤ 40 → ∀ H', Keep x H H' → SwAt C CH CS H' x ns hs → Q .non H') ∧ (40 < hs.length → ∀ d H', ToldF H H' d fTooMany → E (.ref CM) (some d) H')
abbrev HasParties (P : Program) (w : World) (K : PySem.W.Frag) (mg : Str → Option Value) (base : Heap) (C CH : Addr) : Prop := Has P w K mg base CX0 1 "_check_parties" ["hand", "strangers"] (spParties C CH)
abbrev HasNetOf (P : Program) (w : World) (K : PySem.W.Frag) (mg : Str → Option Value) (base : Heap) (C CH : Addr) : Prop := Has P w K mg base CX0 7 "_net_of" ["hands", "name"] (spNetOf C CH)
section
variable {P : Program} {w : World} {K : PySem.W.Frag} {mg : Str → Option Value} {base : Heap} {f C CH CS CW CD CI CT CU CM : Addr} {fd : FuncData}
abbrev nSI : List Str := ["self", "strangers", "hands", "hand", "name"]
theorem scSI : FnScope nSI ["self", "strangers", "hands"] (defScope sSInit) := ⟨rfl, rfl, rfl, by decide +kernel, rfl, by decide +kernel, by decide +kernel⟩
theorem ok_sinit (G : Glob mg) (R : SwapF K CS) (RH : HandF K CH) (gS : mg "Swap" = some (.ref CS)) (gH : mg "HandOver" = some (.ref CH)) (HN : HasNames P w K mg base) (HL : HasListed P w K mg base) (HT : HasTwiceS P w K mg base) (HP : HasParties P w K mg base C CH) (HO : HasNetOf P w K mg base C CH)
    (B : Errs P w K mg base CW CD CI CT CU CM) (F : DefAt K "__init__" "Swap.__init__" sSInit f fd) : FnOk P w K mg base (L2.CX P w) 8 f fd ["self", "strangers", "hands"] (spSInit C CH CS CM) := by
  obtain ⟨fn, fdn, mN, kN, bN, GN⟩ := HN.h
  obtain ⟨fl, fdl, mL, kL, bL, GL⟩ := HL.h
  obtain ⟨ft, fdt, mT, kT, bT, GT⟩ := HT.h
  obtain ⟨fp, fdp, mP, kP_, bP, GP⟩ := HP.h
  obtain ⟨fo, fdo, mO, kO, bO, GO⟩ := HO.h
  obtain ⟨u6, v6⟩ := R.m6
  obtain ⟨u40, v40⟩ := R.m40
  refine okX F scSI (fun vs H Q E ⟨x, dx, sa, ha, ns, as, hs, e, _⟩ => by rw [e]; rfl) (fun cdv A outer s H vs Q E hr ⟨x, dx, sa, ha, ns, as, hs, e, hx, sqs0, sqh, hh, ok, l100, qk, qe⟩ => ?_)
  subst e
  have sqs : SqA H sa (ns.map V.str) := .inl sqs0
  have tk : Takes (cxOf (L2.CX P w) P w K mg base nSI "Swap.__init__" (defScope sSInit) f cdv A outer s H E) (fun cls d _ H' => E cls d H') := takes_of rfl rfl rfl rfl
  have r1 := hr.mono (show 1 ≤ 7 by decide)
  have r2 := hr.mono (show 2 ≤ 7 by decide)
  refine ⟨_, pss_cons (ps_if (PW.pt (pw_or (pt_not (pt_val (pe_call GN r2 rfl mN kN bN .nil pass0 (pa_cons (pv 1) pa_nil)))) (pw_or1 (pt_cmpR op_lt (pe_callB (r := rLenA K) (call_lenA rfl) (by rfl) G.len PySem.boot_len (pa_cons (pv 1) pa_nil)) pe_int (nomark _))))) pss_dead pss_nil)
    (pss_cons (ps_if (PW.pt (pw_or (pt_not (pt_val (pe_call GL r1 rfl mL kL bL .nil pass0 (pa_cons (pv 2) pa_nil)))) (pw_or1 (pt_not (pt_val (pe_callB (cr_all rfl) (by rfl) G.all (by decide +kernel) (pa_cons
          (pe_lc (own := [("hand", 3)]) (g := gName 3) (tt := tYes) rfl scSI.nd (pi_seq (pv 2)) (blkOk_by (N := nSI) (sc := defScope sSInit) (by decide +kernel))
            (fun _ _ _ _ _ => pg_name (i := 3) scSI.nd rfl (Or.inl rfl)) (fun _ _ _ _ _ => pts_nil) (fun _ _ _ _ _ => pe_callB (r := rIsi K) call_isi (by rfl) G.isi (by decide +kernel) (pa_cons (pv 3) (pa_cons (pe_glob (v := .ref CH) rfl gH rfl) pa_nil)))) pa_nil))))))) pss_dead pss_nil)
    (pss_cons (ps_expr (pe_call GT r1 rfl mT kT bT .nil pass0 (pa_cons (pv 1) pa_nil)))
    (pss_cons (ps_for (passes_of rfl) rfl (pi_seq (pv 2)) (pg_name (i := 3) scSI.nd rfl (Or.inl rfl)) (pss_one (ps_expr (pe_call GP r1 rfl mP kP_ bP .nil pass0 (pa_cons (pv 3) (pa_cons (pv 1) pa_nil))))))
    (pss_cons (ps_if (pt_cmpR op_gt (pe_callB (r := rLenA K) (call_lenA rfl) (by rfl) G.len PySem.boot_len (pa_cons (pv 1) pa_nil)) (ClX.pe_cval (pe_glob (v := .ref CS) rfl gS rfl)) (nomark _)) pss_dead pss_nil)
    (pss_cons (ps_if (pt_cmpR op_gt (pe_callB (r := rLenA K) (call_lenA rfl) (by rfl) G.len PySem.boot_len (pa_cons (pv 2) pa_nil)) (ClX.pe_cval (pe_glob (v := .ref CS) rfl gS rfl)) (nomark _)) (pss_one (ps_rs B.many rfl tk r2 (pa_cons pe_str (pa_cons (ClX.pe_cval (pe_glob (v := .ref CS) rfl gS rfl)) pa_nil)))) pss_nil)
    (pss_cons (ps_fld (pv 0) (pe_callTy (r := rTupZ K) (call_tupZ rfl) (by rfl) G.tup (by decide +kernel) (pa_cons (pv 1) pa_nil)) rfl)
    (pss_cons (ps_fld (pv 0) (pe_callTy (r := rTupK K) (call_tupK rfl) (by rfl) G.tup (by decide +kernel) (pa_cons (pv 2) pa_nil)) rfl)
    (pss_one (ps_fld (pv 0) (pe_callTy (r := rTupK K) (call_tupK rfl) (by rfl) G.tup (by decide +kernel) (pa_cons
          (pe_lc (own := [("name", 4)]) (g := gName 4) (tt := tYes) rfl scSI.nd (pi_seq (pv 1)) (blkOk_by (N := nSI) (sc := defScope sSInit) (by decide +kernel))
            (fun _ _ _ _ _ => pg_name (i := 4) scSI.nd rfl (Or.inl rfl)) (fun _ _ _ _ _ => pts_nil) (fun _ _ _ _ _ => pe_call GO hr rfl mO kO bO .nil pass0 (pa_cons (pv 2) (pa_cons (pv 4) pa_nil)))) pa_nil)) rfl))))))))), ?_⟩
  have sz : sizeLine = 16777216 := sizeLine_eq
  have n2 := ok.n2
  have n6 := ok.n6
  refine ⟨_, rfl, sa, ns, rfl, sqs, ok.nm, by omega, fun H1 s1 => ⟨true, rfl, iteF ?_⟩⟩
  refine ⟨_, rfl, sa, _, rfl, (sqs.same s1).imp SqL.of SqT.of, _, _, rfl, rfl, false, congrArg V.bl (decide_eq_false (by rw [List.length_map]; omega)), iteF ?_⟩
  refine ⟨_, rfl, _, rfl, .inr ⟨ha, _, rfl, sqh.same s1, fun H2 s2 => ⟨true, rfl, iteF ?_⟩⟩⟩
  have s02 := s1.trans s2
  refine ⟨_, rfl, ha, rfl, ?_⟩
  refine lc_seqA (sqh.same s02) fun D hD => ⟨fun i H3 => Same H2 H3 ∧ H3 D = some (.lst (List.replicate i (V.bl true))), ⟨upd_new hD, upd_same⟩, fun i H3 _ z => ?_, ?_, ?_⟩
  · obtain ⟨o, e⟩ := (sqh.same s02).there
    rw [e, z.1 _ _ e]
  · rintro i y H3 hy ⟨s3, h3⟩
    obtain ⟨a, ea, rfl⟩ := map_at hy
    obtain ⟨h, eh, hat⟩ := hh.get ea
    have li := (List.getElem?_eq_some_iff.mp eh).1
    obtain ⟨dy, pc, pd, h1, _, _⟩ := hat.same (s02.trans s3)
    exact ⟨rfl, yes_of ⟨_, rfl, _, _, _, _, _, rfl, .own CH, .base (RH.ty h1), RH.me, _, h3, by rw [List.length_replicate]; omega, same_upd hD s3, by rw [rep_snoc, upd_same]⟩⟩
  rintro H3 ⟨s3, h3⟩
  refine ⟨D, List.replicate _ true, rfl, SqL.of (by rw [h3, List.map_replicate]), ?_⟩
  rw [all_true]
  refine ⟨true, rfl, iteF ?_⟩
  have s03 := s02.trans s3
  refine ⟨_, rfl, sa, ns, rfl, sqs.same s03, by omega, ok.nd, fun H4 s4 => ?_⟩
  have s04 := s03.trans s4
  refine ⟨_, rfl, ha, rfl, ?_⟩
  refine for_seqA (sqh.same s04) (fun i σ H5 => Same H4 H5 ∧ ∃ z, σ = [some (.ref x), some (.ref sa), some (.ref ha), z, none]) ⟨Same.refl _, none, rfl⟩ (fun i σ' H' _ z => ?_) ?_ ?_
  · obtain ⟨o, e⟩ := (sqh.same s04).there
    rw [e, z.1 _ _ e]
  · rintro i y σ H5 hy ⟨s5, z, rfl⟩
    obtain ⟨a, ea, rfl⟩ := map_at hy
    obtain ⟨h, eh, hat⟩ := hh.get ea
    obtain ⟨_, g1, g2⟩ := ok.hk h (List.mem_of_getElem? eh)
    exact ⟨_, rfl, _, rfl, a, h, sa, ns, rfl, hat.same (s04.trans s5), sqs.same (s04.trans s5), g1, g2, fun H6 s6 => ⟨s5.trans s6, _, rfl⟩⟩
  rintro σ H5 ⟨s5, z, rfl⟩
  have s05 := s04.trans s5
  have lh : hs.length = (as.map V.ref).length := by rw [List.length_map, hh.1]
  refine ⟨_, rfl, sa, _, rfl, (sqs.same s05).imp SqL.of SqT.of, CS, .type "type", .int 6, u6, rfl, R.cr, v6, _, _, rfl, rfl, false, congrArg V.bl (decide_eq_false (by rw [List.length_map]; omega)), iteF ?_⟩
  refine ⟨_, rfl, ha, _, rfl, (sqh.same s05).imp SqL.of SqT.of, CS, .type "type", .int 40, u40, rfl, R.cr, v40, _, _, rfl, rfl, decide (40 < hs.length), congrArg V.bl (decide_eq_decide.mpr (by rw [lh]; omega)), ?_⟩
  by_cases l40 : 40 < hs.length
  · rw [decide_eq_true l40]
    refine iteT ⟨CS, .type "type", .int 40, u40, rfl, R.cr, v40, ?_⟩
    show rsK CM ["what", "most"] (fun cls d _ H' => E cls d H') [some (V.ref x), some (V.ref sa), some (V.ref ha), z, none] [V.str "hands", .int 40] H5
    exact rs_of (vs := [V.str "hands", .int 40]) rfl (by show 2 ≤ 1000; decide) fun d H' t => qe l40 d H' (t.from s05)
  rw [decide_eq_false l40]
  refine iteF ?_
  have fin := qk (by omega)
  have x5 := s05 _ _ hx
  have sq5 := sqs.same s05
  have sh5 := sqh.same s05
  dsimp only [tNext]
  refine fld_tupZ (i := 1) rfl rfl (s05 _ _ sqs0) fun ps H6 s6 hps => ⟨CS, dx, [], s6 _ _ x5, R.cl, R.nS, (by show 0 < 1000; decide), ?_⟩
  have x6 := s6 _ _ x5
  have k7 : Keep x H6 (upd H6 x (.ins CS dx (fs1 ps))) := Keep.upd
  have x7 : upd H6 x (.ins CS dx (fs1 ps)) x = some (.ins CS dx (fs1 ps)) := upd_same
  have sh7 := sqa_keep (sh5.same s6) x6 k7
  have hps7 := hps.keep (hps.ne x6) k7
  dsimp only
  refine fld_tup (i := 2) rfl rfl sh7 fun ph H8 s8 hph => ⟨CS, dx, fs1 ps, s8 _ _ x7, R.cl, R.nH, (by show 1 < 1000; decide), ?_⟩
  have x8 := s8 _ _ x7
  have kH6 : Keep x H H6 := Same.keep (s05.trans s6)
  have kH8 : Keep x H H8 := (kH6.trans k7).trans (Same.keep s8)
  have p8 : ∀ {p : Addr} {xs : List V}, H8 p = some (.tup xs) → p ≠ x := fun h => ne_of h x8 (fun z => nomatch z)
  have k9 : Keep x H8 (upd H8 x (.ins CS dx (fs2 ps ph))) := Keep.upd
  have x9 : upd H8 x (.ins CS dx (fs2 ps ph)) x = some (.ins CS dx (fs2 ps ph)) := upd_same
  have hps8 := hps7.same s8
  have hps9 := hps8.keep (hps8.ne x8) k9
  have hph9 := k9 _ _ (p8 hph) hph
  have kH9 := kH8.trans k9
  have hh9 := hh.keep hx kH9
  have sa9 := sqa_keep sqs hx kH9
  have sh9 := sqa_keep sqh hx kH9
  dsimp only
  refine ⟨_, rfl, sa, rfl, ?_⟩
  refine lc_seqA sa9 fun D hD => ⟨fun i H3 => Same (upd H8 x (.ins CS dx (fs2 ps ph))) H3 ∧ SixL C H3 D ((ns.take i).map (net hs)), ⟨upd_new hD, [], upd_same, .nil⟩, fun i H3 _ z => ?_, ?_, ?_⟩
  · obtain ⟨o, e⟩ := sa9.there
    exact (z.1 _ _ e).trans e.symm
  · rintro i y H3 hy ⟨s3, sl3⟩
    obtain ⟨n, en, rfl⟩ := map_at hy
    have li := (List.getElem?_eq_some_iff.mp en).1
    refine ⟨rfl, yes_of ⟨_, rfl, _, rfl, ha, as, hs, n, rfl, sh9.same s3, hh9.same s3, fun h m => (ok.hk h m).1, l100, fun p H4 s4 np hp => ?_⟩⟩
    obtain ⟨qs, hd, al⟩ := sl3.same s4
    refine ⟨_, hd, ?_, same_upd hD (s3.trans s4), qs ++ [p], by rw [upd_same, List.map_append]; rfl, ?_⟩
    · rw [List.length_map, al.1, List.length_map, List.length_take]; omega
    · rw [take_more en, List.map_append]
      refine All2.snoc (al.mono fun u v z => ?_) ?_
      · obtain ⟨dy, z⟩ := z
        exact ⟨dy, by rw [upd_ne (ne_of z hd (fun z => nomatch z))]; exact z⟩
      · obtain ⟨dy, z⟩ := hp
        exact ⟨dy, by rw [upd_ne (ne_of z hd (fun z => nomatch z))]; exact z⟩
  rintro H3 ⟨s3, qs, hd, al⟩
  rw [List.length_map, List.take_length] at al
  refine ⟨D, _, rfl, .inl ⟨SqL.of hd, fun pn npn => ?_⟩⟩
  have sn := upd_new (o := .tup (qs.map V.ref)) npn
  have x10 := sn _ _ (s3 _ _ x9)
  have hpn : upd H3 pn (.tup (qs.map V.ref)) pn = some (.tup (qs.map V.ref)) := upd_same
  refine ⟨_, rfl, x, CS, dx, fs2 ps ph, rfl, x10, R.cl, R.nN, (by show 2 < 1000; decide), ?_⟩
  have kf : Keep x (upd H8 x (.ins CS dx (fs2 ps ph))) (upd (upd H3 pn (.tup (qs.map V.ref))) x (.ins CS dx (fsS ps ph pn))) := (Same.keep (s3.trans sn)).trans Keep.upd
  refine fin _ (kH9.trans kf) ⟨dx, ps, ph, pn, as, qs, upd_same, hps9.keep (hps8.ne x8) kf, kf _ _ (p8 hph) hph9, hh.keep hx (kH9.trans kf), Keep.upd (p := x) _ _ (ne_of hpn x10 (fun z => nomatch z)) hpn, (al.mono fun u v z => z.same sn).mono fun u v z => ?_⟩
  have ux : u ≠ x := by
    rintro rfl
    obtain ⟨dy, z⟩ := z
    rw [x10] at z
    injection z with z
    injection z with _ _ z
    have b := fsR_top (rT v 6) (rB v 6)
    rw [← z] at b
    unfold fs2 fs1 at b
    rw [lookup_putF, if_neg (by decide +kernel), lookup_putF, if_neg (by decide +kernel)] at b
    cases b
  obtain ⟨dy, z⟩ := z
  exact ⟨dy, Keep.upd (p := x) _ _ ux z⟩
end
end K5

/-! k05: len(o), o != y of own classes. -/
namespace K18
open PySem PySem.Spec PyProof.Rows L2 LamX K1

section
open PySem.W
variable {prog : Program} {w : World} {A : Around} {E : Value → Shared → Prop} {s : Shared} {K : Frag} {x C L f : Addr} {h0 : Heap} {m : Str → Option Value} {ox : Obj} {od : Option Obj} {b tb : Value}
/-- a builtin slot found by the class, called on its instance -/
theorem ifBound_B {M : Model} {name : Str} {id : String} {args : List Value} {Q : Option Value → Shared → Prop} (X : K.In s.heap) (I : InstAt s.heap x ox C od) (hs : findIn K (.ref C) name = some (some (.builtin id))) (hb : ∀ self, bindSpecial (.builtin id) self = pure (.builtin id, [self]))
    (h : wpAny M A (call (.builtin id) (.ref x :: args)) (fun v => Q (some v)) E s) : wpAny M A (callSpecialIfBound? (.ref x) name args) Q E s := by
  simp only [callSpecialIfBound?, bindSpecialIfBound?]
  refine wpAny_holding (wpAny_bind (wpAny_bind (wpAny_bind (I.type.here ((looks_findIn X hs).here ?_)))))
  simp only [hb]
  refine wpAny_bind (wpAny_askSetting (wpAny_ite ?_))
  have fin : wpAny M A (call (.builtin id) ([.ref x] ++ args) >>= fun v => pure (some v)) Q E s := wpAny_bind (wpAny_mono h (fun v s' z => wpAny_pure z) fun _ _ z => z)
  split
  · exact wpAny_bind (wpAny_pure (wpAny_pure (by exact fin)))
  · exact wpAny_tryCatch (wpAny_bind (wpAny_pure (wpAny_pure (by exact fin))))
theorem ne_own {Q : Value → Shared → Prop} (hu : A.units + 1 < cLine) (F : Fr h0 L s.heap m) (X0 : K.In h0) (I : InstAt s.heap x ox C od) (hb : Looks (model prog w) s.heap (typeOf b) tb) (hn : notFirst K C tb = true)
    (hne : findIn K (.ref C) "__ne__" = some (some (.builtin "object.__ne__"))) (hob : subIn K (.ref C) (.type "object") = some true) (hs : findIn K (.ref C) "__eq__" = some (some (.ref f))) (hf : isFn K (.ref f) = true)
    (h : wpAny (model prog w) A.in1 (call (.ref f) [.ref x, b]) (fun v s' => ∃ k, v = .bool k ∧ Q (.bool (!k)) s') E s) : wpAny (model prog w) A (richCompare .NotEq (.ref x) b) Q E s := by
  have X := X0.keeps F.keep
  have one : wpAny (model prog w) A (tryCompare (.ref x) (cmpInfo .NotEq).2.1 b) (fun r s' => ∃ v, r = some v ∧ Q v s') E s := by
    unfold tryCompare
    refine wpAny_bind (ifBound_B (id := "object.__ne__") X I hne PySem.F.slot_tuple_iterator_ne.bind ?_)
    refine wpAny_call (codeAny_call_builtin PySem.F.slot_tuple_iterator_ne.plain PySem.F.cmpEntry_ne (check_slot PySem.F.cmpKind_ne PySem.F.cmpSplit_ne ?_ (PySem.F.cmpArgs_ne _ _) ?_))
    · exact I.type.andThen (looks_subIn X hob)
    · unfold Builtin.«object.__ne__»
      refine wpAny_bind (wpAny_of_eq (a := ((Value.ref x : Value), [b])) (by first | rfl | (simp only [slotArgs]; rfl)) ?_)
      refine wpAny_bind (wpAny_cRoomFor hu ?_)
      refine wpAny_bind (ifBound_K X I hs hf (wpAny_mono h (fun v s' hv => ?_) fun _ _ z => z))
      obtain ⟨k, rfl, q⟩ := hv
      refine wpAny_bind (m := truthy (.bool k)) (wpAny_truthy_bool ?_)
      first | exact wpAny_pure (wpAny_pure ⟨_, rfl, q⟩) | exact wpAny_pure (wpAny_pure (wpAny_pure ⟨_, rfl, q⟩))
  unfold richCompare
  simp only [oneThing_ref]
  refine wpAny_holding (wpAny_bind (wpAny_cRoomFor (by omega) ?_))
  refine wpAny_bind (I.type.here (wpAny_bind (hb.here ?_)))
  split
  · rename_i q
    have e : subIn K tb (.ref C) = some false := by
      rcases Bool.or_eq_true_iff.mp hn with e | e
      · rw [beq_iff_eq.mp e] at q; simp at q
      · exact beq_iff_eq.mp e
    refine wpAny_bind ((looks_subIn X e).here ?_)
    simp only [Bool.false_eq_true, if_false]
    exact wpAny_bind (wpAny_mono one (fun r s' ⟨v, z, hq⟩ => by subst z; exact wpAny_pure hq) fun _ _ z => z)
  · refine wpAny_bind (wpAny_pure ?_)
    simp only [Bool.false_eq_true, if_false]
    exact wpAny_bind (wpAny_mono one (fun r s' ⟨v, z, hq⟩ => by subst z; exact wpAny_pure hq) fun _ _ z => z)
end
section
variable {X : Cx} {CX : CXT} {k : Nat} {C f : Addr} {fd : FuncData} {ps : List Str} {sp : Sp} {E : XK}
/-- x != y by the class's == -/
def rNeO (K : PySem.W.Frag) (C : Addr) (sp : Sp) (E : XK) : R2 := fun x y H Q => ∃ a dx fs t, x = .ref a ∧ H a = some (.ins C dx fs) ∧ TyOf K H y t ∧ PySem.W.notFirst K C t = true ∧ sp [x, y] H (fun v H' => ∃ k, v = .bl k ∧ Q (.bl (!k)) H') E
theorem op_neO (M : OwnM X.K C "__eq__" f) (hne : PySem.W.findIn X.K (.ref C) "__ne__" = some (some (.builtin "object.__ne__"))) (hob : PySem.W.subIn X.K (.ref C) (.type "object") = some true)
    (F : FnOk X.prog X.w X.K X.mg X.base CX k f fd ps sp) (hr : Room (k + 1) X.A) (hb : Binds X.K fd ps []) (hx : Passes CX X.nox E) : OpR X (compareOp .NotEq) (rNeO X.K C sp E) := by
  intro pins s σ H x y v u Q I rx ry h
  obtain ⟨a, dx, fs, t, rfl, ha, ty, hn, hs⟩ := h
  obtain rfl : v = Value.ref a := rx
  obtain ⟨mA, O, _⟩ := ins_get I.hok ha
  obtain ⟨od, J, _⟩ := O.look
  obtain ⟨m, hF⟩ := I.fr
  have hl := F.len _ _ _ _ hs
  have un := hr.un
  refine PySem.W.cmp_ofNotEq (ne_own (by omega) hF I.ok.mod.kin J (ty_look I ry ty) hn hne hob M.at_ M.fn ?_)
  refine wpAny_call (codeAny_mono (F.run X.A.in1 X.stack s H ⟨[.ref a, u], []⟩ [.ref a, u] [.ref a, y] _ E hr.in1 I.env0.in1 (by
    have z := hb s [.ref a, u] I.kIn (by simpa using hl)
    simpa using z) (.cons rfl (.cons ry .nil)) hs) fun r s' hq => ?_)
  cases r with
  | error e => exact False.elim (hx pins σ H s e s' (I.wish _) hq)
  | ok fl =>
    cases fl with
    | ret u =>
      obtain ⟨v, H2, I2, rv, k, rfl, q⟩ := I.after hq
      cases (show u = Value.bool k from rv)
      exact ⟨k, rfl, .bl (!k), H2, I2, rfl, q⟩
    | next => exact False.elim hq
    | brk => exact False.elim hq
    | cont => exact False.elim hq
/-- len(x) -/
theorem call_lenO (M : OwnM X.K C "__len__" f) (F : FnOk X.prog X.w X.K X.mg X.base CX k f fd ps sp) (hr : Room (k + 1) X.A) (hb : Binds X.K fd ps []) (hx : Passes CX X.nox E) :
    CallR X (.builtin "len") (fun xs H Q => ∃ a dx fs, xs = [.ref a] ∧ H a = some (.ins C dx fs) ∧ sp [.ref a] H (fun v H' => ∃ n : Int, v = .int n ∧ 0 ≤ n ∧ n < 2 ^ 63 ∧ Q (.int n) H') E) := by
  intro pins s σ H xs us Q I r h
  obtain ⟨a, dx, fs, rfl, ha, hs⟩ := h
  obtain ⟨u, rfl, ru⟩ := vals1 r
  obtain rfl : u = Value.ref a := ru
  obtain ⟨mA, O, _⟩ := ins_get I.hok ha
  obtain ⟨od, J, _⟩ := O.look
  obtain ⟨m, hF⟩ := I.fr
  have hl := F.len _ _ _ _ hs
  refine PySem.W.len_K hF I.ok.mod.kin J M.at_ M.fn (wpAny_call (codeAny_mono (F.run X.A.in1 X.stack s H ⟨[.ref a], []⟩ [.ref a] [.ref a] _ E hr.in1 I.env0.in1 (by
    have z := hb s [.ref a] I.kIn (by simpa using hl)
    simpa using z) (.cons rfl .nil) hs) fun r s' hq => ?_))
  cases r with
  | error e => exact False.elim (hx pins σ H s e s' (I.wish _) hq)
  | ok fl =>
    cases fl with
    | ret u =>
      obtain ⟨v, H2, I2, rv, n, rfl, n0, n1, q⟩ := I.after hq
      obtain ⟨tk, rfl⟩ := rv
      exact ⟨⟨n0, n1⟩, .int n, H2, I2.tok _, ⟨_, rfl⟩, q⟩
    | next => exact False.elim hq
    | brk => exact False.elim hq
    | cont => exact False.elim hq
/-- x[y], by the class's __getitem__ -/
def rItO (C : Addr) (sp : Sp) (E : XK) : R2 := fun x y H Q => ∃ a dx fs, x = .ref a ∧ H a = some (.ins C dx fs) ∧ sp [x, y] H Q E
theorem pe_itemO {a b : Expr} {pos : Pos} {ta tb : TE} (M : OwnM X.K C "__getitem__" f) (hfi : PySem.W.fnIn X.K f = true) (F : FnOk X.prog X.w X.K X.mg X.base CX k f fd ps sp) (hr : Room (k + 1) X.A) (hb : Binds X.K fd ps []) (hx : Passes CX X.nox E)
    (he : PE X a ta) (hi : PE X b tb) (hsl : ∀ o i, subscripted b true o i = runValue (.builtin "lifetime.subscript" ⟨[o, i], []⟩) := by intro _ _; rfl) : PE X (.Subscript a b pos) (tOp (rItO C sp E) ta tb) := by
  refine ⟨fun pins s σ H Q I h => ?_⟩
  refine Subscript_ (binT he hi I h fun v u s2 x y H2 I2 rx ry q => ?_)
  obtain ⟨p, dx, fs, rfl, hp, hs⟩ := q
  obtain rfl : v = Value.ref p := rx
  obtain ⟨mA, O, _⟩ := ins_get I2.hok hp
  obtain ⟨od, J, _⟩ := O.look
  obtain ⟨m, hF⟩ := I2.fr
  have hl := F.len _ _ _ _ hs
  refine PySem.W.sub_K hF I2.ok.mod.kin J M.at_ hfi M.fn ?_ (hsl _ _)
  refine wpAny_call (codeAny_mono (F.run X.A.in1 X.stack s2 H2 ⟨[.ref p, u], []⟩ [.ref p, u] [.ref p, y] _ E hr.in1 I2.env0.in1 (by
    have z := hb s2 [.ref p, u] I2.kIn (by simpa using hl)
    simpa using z) (.cons rfl (.cons ry .nil)) hs) fun r s' hq => ?_)
  cases r with
  | error e => exact False.elim (hx pins σ H2 s2 e s' (I2.wish _) hq)
  | ok fl =>
    cases fl with
    | ret u => exact I2.after hq
    | next => exact False.elim hq
    | brk => exact False.elim hq
    | cont => exact False.elim hq
end
/-- at it an iterator over the tuple at t, next place i; .. used up -/
def ItT (t it : Addr) (i : Nat) : HO := .ext fun h => h.IsTupleIter it t i
def ItX (it : Addr) : HO := .ext fun h => ∃ o, h.get? it = some o
theorem itT_ok {P : Program} {w : World} {H : Hp} {h : Heap} {t it : Addr} {i : Nat} (e : h.IsTupleIter it t i) : ObjOk P w H h it (ItT t it i) :=
  ⟨e, let ⟨o, a, _⟩ := e; ⟨o, a⟩, fun h1 h2 ⟨o, a, r⟩ k => ⟨o, k _ a, r⟩⟩
theorem itX_ok {P : Program} {w : World} {H : Hp} {h : Heap} {it : Addr} (e : ∃ o, h.get? it = some o) : ObjOk P w H h it (ItX it) :=
  ⟨e, e, fun h1 h2 ⟨o, a⟩ k => ⟨o, k _ a⟩⟩
section
variable {prog : Program} {w : World} {A : Around} {E : Value → Shared → Prop} {s : Shared} {it t : Addr} {i : Nat} {items : Array Value}
theorem call_iterT0 {Q : Value → Shared → Prop} (ht : s.heap.IsTuple t items) (h : Q (.ref s.heap.objs.size) { s with heap := s.heap.push { cls := .type "tuple_iterator", data := .fields #[.ref t, .int 0 0] } }) :
    wpAny (model prog w) A (call (.builtin "iter") [.ref t]) Q E s := by
  refine Calls.call_function_entry (by decide +kernel) (by decide +kernel) PySem.W.kdk_entry_iter (PySem.W.kdk_args_iter _) ?_
  unfold Builtin.«iter»
  refine wpAny_bind (wpAny_of_eq (a := [Value.ref t]) (by first | rfl | kernel_rfl!) ?_)
  show wpAny _ _ (pyIter (.ref t) >>= _) _ _ _
  exact wpAny_bind (wpAny_pyIter_tuple ht (wpAny_pure ⟨_, rfl, h⟩))
theorem stop_made {α : Type} {Q : α → Shared → Prop} (hh : A.handled = none) (h : ∀ (h' : Heap) (e : Addr) (o : Obj), (∀ b o, s.heap.get? b = some o → h'.get? b = some o) → h'.get? e = some o → o.cls = .type "StopIteration" → E (.ref e) { s with heap := h' }) :
    wpAny (model prog w) A (Builtin.SmallTypes.stopIteration : Sem α) Q E s := by
  unfold Builtin.SmallTypes.stopIteration newExc newTuple
  refine wpAny_bind (wpAny_bind (wpAny_newObj_type ?_ (by size_fits)))
  refine wpAny_bind (wpAny_of_eq (a := Value.none) (by first | rfl | (simp only [firstArgMember]; rfl)) (wpAny_newObj_type ?_ (by size_fits)))
  unfold raiseNew
  refine wpAny_bind (wpAny_handled ?_)
  rw [hh]
  exact wpAny_bind (wpAny_pure (wpAny_throw (h _ _ _ (fun b o e => Heap.get?_push_of_some _ (Heap.get?_push_of_some _ e)) (Heap.get?_push_size _ rfl) rfl)))
theorem tnext_end {Q : Option Value → Shared → Prop} (hh : A.handled = none) (hit : s.heap.IsTupleIter it t i) (ht : s.heap.IsTuple t items) (hx : items[i]? = none)
    (hQ : ∀ h', (∃ o, h'.get? it = some o) → (∀ b o, b ≠ it → s.heap.get? b = some o → h'.get? b = some o) → Q none { s with heap := h' }) : wpAny (model prog w) A (pyNext (.ref it)) Q E s := by
  have T := hit.typeIs
  obtain ⟨o, ho, hc, hd⟩ := hit
  obtain ⟨ol, hol, _, nl, hdl⟩ := ht
  unfold pyNext
  refine wpAny_bind (wpAny_attempt (wpAny_callSpecial?_slot (name := Str.ofString "__next__") T PySem.F.slot_tuple_iterator_next (wpAny_call_entry PySem.F.slot_tuple_iterator_next T PySem.F.entry_tuple_iterator_next ?_ (PySem.F.args_tuple_iterator_next_1 _))))
  show wpAny _ _ (field (.ref it) 0 >>= _) _ _ s
  refine wpAny_bind (wpAny_field ho hd (x := .ref t) rfl (wpAny_ite_split (fun z => absurd z Bool.false_ne_true) fun _ => ?_))
  refine wpAny_bind (wpAny_field ho hd (x := .int i 0) rfl (wpAny_bind (wpAny_seqItems hol hdl ?_)))
  simp only [Int.toNat_natCast, hx]
  refine wpAny_bind (wpAny_rule (wpAny_bind (wpAny_setField ho hd (by simp) ?_)))
  refine stop_made (by exact hh) fun h' e oe k he ec => ?_
  refine wpAny_bind (wpAny_isInstance (T := "StopIteration") (b := true) ⟨_, he, ec⟩ isSubtype_stop (wpAny_pure (hQ h' ⟨_, k _ _ (Heap.get?_update_self _ ho (by first | rfl | (rw [Obj.isFreed_of_fields (Obj.data_mapFields hd _)])))⟩ fun b u hb eu => k b u ?_)))
  exact (Heap.get?_update_other s.heap _ (Ne.symm hb)).trans eu
end

section
variable {X : Cx} {pins : List (Addr × Obj)} {σ : L2.St} {H : Hp} {s : Shared} {it t q : Addr} {i : Nat} {xs : List V} {A1 : Around}
/-- iter(t), t a tuple -/
def rIterT (K : PySem.W.Frag) : List V → Hp → VK → Prop := fun xs H Q => ∃ (t : Addr) (zs : List V), xs = [.ref t] ∧ SqT K H t zs ∧ ∀ it, H it = none → Q (.ref it) (upd H it (ItT t it 0))
theorem call_iterT {K : PySem.W.Frag} (hK : X.K = K) : CallR X (.builtin "iter") (rIterT K) := by
  subst hK
  intro pins s σ H xs us Q I r h
  obtain ⟨t, zs, rfl, hq, k⟩ := h
  obtain rfl := Vals.ref1 r
  obtain ⟨its, rv, p, hz⟩ := I.tuple hq
  exact call_iterT0 p ⟨.ref s.heap.objs.size, _, I.laid (t' := s.toks) (fun b u e => Heap.get?_push_of_some _ e) (Nat.le_refl _) (itT_ok ⟨_, Heap.get?_push_size _ rfl, rfl, rfl⟩), rfl, k _ I.fresh⟩
end
end K18

/-! == of nested values that may hold instances of an own class. -/
namespace K2
open PySem PySem.Spec PyProof.Rows L2 K1
open SeqAt AutoSeq1 MeetsSeq MeetsSeq2 MeetsSeq3

/-- code that runs at A for the body X: the same frames, room -/
structure Af (X : Cx) (k : Nat) (A : Around) : Prop where
  fr : A.frames = some X.stack
  room : Room k A
theorem Af.env0 {X : Cx} {k : Nat} {A : Around} {pins : List (Addr × Obj)} {σ : L2.St} {H : Hp} {s : Shared} (t : Af X k A) (I : Inv X pins σ H s) : Env0 X.prog X.w X.K X.mg X.base A X.stack s H := by
  have e := I.env0
  exact ⟨t.fr, e.mod, e.bs, e.bsz, e.funs, e.frf, e.hok, e.bare⟩
theorem Af.in1 {X : Cx} {k : Nat} {A : Around} (t : Af X (k + 1) A) : Af X k A.in1 := ⟨t.fr, t.room.in1⟩
theorem Af.less {X : Cx} {j k : Nat} {A : Around} (t : Af X k A) (h : j ≤ k) : Af X j A := ⟨t.fr, t.room.mono h⟩
theorem run_af {X : Cx} {k : Nat} {A : Around} {f : Addr} {fd : FuncData} {ps : List Str} {sp : Sp} {pins : List (Addr × Obj)} {σ : L2.St} {H : Hp} {s : Shared} {Q : VK} {us : List Value} {vs : List V} {E : Value → Shared → Prop}
    (F : FnOk X.prog X.w X.K X.mg X.base CX0 k f fd ps sp) (t : Af X k A) (hb : Binds X.K fd ps []) (I : Inv X pins σ H s) (r : Vals vs us) (h : sp vs H Q E0) :
    wpAny (model X.prog X.w) A (call (.ref f) us) (EP X pins σ Q) E s := by
  have hl : us.length = ps.length := by rw [← r.length]; exact F.len _ _ _ _ h
  have b1 := hb s us I.kIn (by rw [List.append_nil]; exact hl)
  rw [List.append_nil] at b1
  refine wpAny_call (codeAny_mono (F.run A X.stack s H ⟨us, []⟩ us vs Q E0 t.room (t.env0 I) b1 r h) fun r s' hq => ?_)
  cases r with
  | error e => exact False.elim hq
  | ok fl =>
    cases fl with
    | ret u => exact I.after hq
    | next => exact False.elim hq
    | brk => exact False.elim hq
    | cont => exact False.elim hq

theorem tup_at {X : Cx} {a : Addr} {xs : List V} {pins : List (Addr × Obj)} {σ : L2.St} {s : Shared} {H1 : Hp} (I : Inv X pins σ H1 s) (h : H1 a = some (.tup xs)) :
    ∃ (o : Obj) (its : List Value) (n : Nat), s.heap.get? a = some o ∧ o.cls = .type "tuple" ∧ o.data = .seq its.toArray n ∧ Vals xs its := by
  obtain ⟨_, its, r, o, h1, h2, n, h3⟩ := (show ObjOk X.prog X.w H1 s.heap a (.tup xs) from I.hok a _ h)
  exact ⟨o, its, n, h1, h2, h3, r⟩
theorem own_inst {X : Cx} {a C : Addr} {pins : List (Addr × Obj)} {σ : L2.St} {s : Shared} {H1 : Hp} (I : Inv X pins σ H1 s) {dx : Addr} {fs : List (Str × V)} (h : H1 a = some (.ins C dx fs)) : ∃ ox od, PySem.W.InstAt s.heap a ox C od := by
  obtain ⟨mA, O, _⟩ := ins_get I.hok h
  obtain ⟨od, J, _⟩ := O.look
  exact ⟨_, _, J⟩
/-- v == v', by eqBool and by richCompare, tells b wherever it is reached -/
def EqU (X : Cx) (k : Nat) (H : Hp) (v v' : V) (b : Bool) : Prop :=
  ∀ (A : Around) (E : Value → Shared → Prop) (pins : List (Addr × Obj)) (σ : L2.St) (s : Shared) (H1 : Hp) (u u' : Value) (Q : Bool → Shared → Prop), Af X k A → Inv X pins σ H1 s → Same H H1 → RelV v u → RelV v' u' →
    (∀ s' H2, Inv X pins σ H2 s' → Same H1 H2 → Q b s') → wpAny (model X.prog X.w) A (eqBool u u') Q E s
def RcU (X : Cx) (k : Nat) (H : Hp) (v v' : V) (b : Bool) : Prop :=
  ∀ (A : Around) (E : Value → Shared → Prop) (pins : List (Addr × Obj)) (σ : L2.St) (s : Shared) (H1 : Hp) (u u' : Value) (Q : Value → Shared → Prop), Af X k A → Inv X pins σ H1 s → Same H H1 → RelV v u → RelV v' u' →
    (∀ s' H2, Inv X pins σ H2 s' → Same H1 H2 → Q (.bool b) s') → wpAny (model X.prog X.w) A (richCompare .Eq u u') Q E s
theorem EqU.more {X : Cx} {j k : Nat} {H : Hp} {v v' : V} {b : Bool} (r : EqU X j H v v' b) (h : j ≤ k) : EqU X k H v v' b :=
  fun A E pins σ s H1 u u' Q a I hs r1 r2 hq => r A E pins σ s H1 u u' Q (a.less h) I hs r1 r2 hq
/-- data that the library compares -/
theorem EqU.of_at {X : Cx} {k : Nat} {H : Hp} {v v' : V} {b : Bool} (h : ∀ (A : Around) (s : Shared) (H1 : Hp) (pins : List (Addr × Obj)) (σ : L2.St) (u u' : Value), A.units < cLine → Inv X pins σ H1 s → Same H H1 → RelV v u → RelV v' u' → EqAt A s u u' b) : EqU X k H v v' b :=
  fun A E pins σ s H1 u u' Q a I hs r1 r2 hq => h A s H1 pins σ u u' (by have := a.room.un; omega) I hs r1 r2 X.prog X.w E Q (hq s H1 I (Same.refl _))
/-- two refs: the same one, or as they are compared -/
theorem EqU.of_rc {X : Cx} {k : Nat} {H : Hp} {a c : Addr} {b : Bool} (h0 : a = c → b = true) (h : RcU X k H (.ref a) (.ref c) b) : EqU X k H (.ref a) (.ref c) b := by
  intro A E pins σ s H1 u u' Q at_ I hs r1 r2 hq
  obtain rfl : u = Value.ref a := r1
  obtain rfl : u' = Value.ref c := r2
  unfold eqBool
  refine wpAny_holding ?_
  refine wpAny_ite_split (fun hab => ?_) (fun _ => ?_)
  · have e : a = c := by have := eq_of_beq hab; injection this
    have e := h0 e
    subst e
    exact wpAny_bind (wpAny_rule (wpAny_pure (hq s H1 I (Same.refl _))))
  · exact wpAny_bind (h A E pins σ s H1 _ _ _ at_ I hs rfl rfl fun s' H2 I2 hs2 => wpAny_truthy_bool (hq s' H2 I2 hs2))

/-! ### tuples -/
/-- two lists compared item by item, as far as both go: b tells whether all are equal -/
inductive EqL (X : Cx) (k : Nat) (H : Hp) : List V → List V → Bool → Prop
  | nilL {ys : List V} : EqL X k H [] ys true
  | nilR {xs : List V} : EqL X k H xs [] true
  | no {x y : V} {xs ys : List V} : EqU X k H x y false → EqL X k H (x :: xs) (y :: ys) false
  | yes {x y : V} {xs ys : List V} {b : Bool} : EqU X k H x y true → EqL X k H xs ys b → EqL X k H (x :: xs) (y :: ys) b
section
variable {X : Cx} {H : Hp} {a c : Addr} {xs ys : List V} {k : Nat} {b : Bool}
theorem tup_eq_run (e : EqL X k H xs ys b) (hx : H a = some (.tup xs)) (hy : H c = some (.tup ys)) {A : Around} {pins : List (Addr × Obj)} {σ : L2.St} {s : Shared} {H1 : Hp} {R : Result → Shared → Prop} (at_ : Af X (k + 1) A) (I : Inv X pins σ H1 s) (hs : Same H H1)
    (hR : ∀ s' H2, Inv X pins σ H2 s' → Same H1 H2 → R (.ok (.ret (.bool (b && xs.length == ys.length)))) s') :
    wpAny (model X.prog X.w) A.in1 (Builtin.«tuple.__eq__» ⟨[.ref a, .ref c], []⟩) (fun fin s' => ∃ v, fin = .done (.ret v) ∧ R (.ok (.ret v)) s') (fun e s' => R (.error e) s') s := by
  obtain ⟨oa, its, na, h1, h2, h3, rx⟩ := tup_at I (hs _ _ hx)
  obtain ⟨oc, its2, nc, g1, g2, g3, ry⟩ := tup_at I (hs _ _ hy)
  obtain ⟨cls, dd, data, sl⟩ := oa
  obtain ⟨cls2, dd2, data2, sl2⟩ := oc
  simp only at h2 h3 g2 g3
  subst h2 h3 g2 g3
  have f2 := AutoSeq1.sub_tuple_tuple
  have l1 := rx.length
  have l2 := ry.length
  obtain ⟨hp, g, d, tk, os⟩ := s
  wp_walk using wpAny_loadPart' h1, wpAny_loadPart' g1, wpAny_forIn_list _ (fun rest b' s' => b'.1 = none ∧ ∃ xs' ys' us ws H2, rest = us.zip ws ∧ Vals xs' us ∧ Vals ys' ws ∧ EqL X k H xs' ys' b ∧ Inv X pins σ H2 s' ∧ Same H1 H2) _
  case turn =>
    rintro ⟨y, x⟩ rest b' s' ⟨hb', xs', ys', us, ws, H2, hz, ru, rw, el, I2, hs2⟩
    cases ru with
    | nil => simp at hz
    | @cons p u ps us' q1 q2 =>
      cases rw with
      | nil => simp at hz
      | @cons p' w ps' ws' q3 q4 =>
        rw [List.zip_cons_cons] at hz
        injection hz with hyx hrest
        injection hyx with e1 e2
        subst e1 e2
        cases el with
        | no h =>
          refine wpAny_bind (h A.in1 _ pins σ s' H2 _ _ _ at_.in1 I2 (hs.trans hs2) q1 q3 fun s3 H3 I3 hs3 => ?_)
          have z := hR s3 H3 I3 (hs2.trans hs3)
          rw [Bool.false_and] at z
          wp_walk
          exact ⟨_, rfl, z⟩
        | yes h hr =>
          refine wpAny_bind (h A.in1 _ pins σ s' H2 _ _ _ at_.in1 I2 (hs.trans hs2) q1 q3 fun s3 H3 I3 hs3 => ?_)
          wp_walk
          exact ⟨rfl, _, _, _, _, H3, hrest, q2, q4, hr, I3, hs2.trans hs3⟩
  case fin =>
    rintro ⟨b1, b2⟩ s' ⟨hb', xs', ys', us, ws, H2, hz, ru, rw, el, I2, hs2⟩
    simp only at hb'
    subst hb'
    have z := hR s' H2 I2 hs2
    have eb : b = true := by
      cases ru with
      | nil => cases el <;> rfl
      | cons q1 q2 =>
        cases rw with
        | nil => cases el <;> rfl
        | cons q3 q4 => simp at hz
    rw [eb, Bool.true_and, l1, l2] at z
    wp_walk
    exact ⟨_, rfl, by simpa [Builtin.Tuple.tupleCompareSizes] using z⟩
  case h => exact ⟨rfl, xs, ys, its, its2, H1, by simp, rx, ry, e, I, Same.refl _⟩
theorem RcU.tup (e : EqL X k H xs ys b) (hx : H a = some (.tup xs)) (hy : H c = some (.tup ys)) : RcU X (k + 1) H (.ref a) (.ref c) (b && xs.length == ys.length) := by
  intro A E pins σ s H1 u u' Q at_ I hs r1 r2 hq
  obtain rfl : u = Value.ref a := r1
  obtain rfl : u' = Value.ref c := r2
  obtain ⟨oa, its, na, h1, h2, h3, rx⟩ := tup_at I (hs _ _ hx)
  obtain ⟨oc, its2, nc, g1, g2, g3, ry⟩ := tup_at I (hs _ _ hy)
  have hT : s.TypeIs (.ref a) "tuple" := ⟨oa, h1, h2⟩
  have hT2 : s.TypeIs (.ref c) "tuple" := ⟨oc, g1, g2⟩
  refine wpAny_richCompare_same_room hT hT2 F.slot_tuple_eq ?_ (by have := at_.room.un; omega)
  refine wpAny_call (codeAny_call_builtin F.slot_tuple_eq.plain F.entry_tuple_eq (F.slot_tuple_eq.check _ _ _ _ _ _ _ _ hT (F.args_tuple_eq_2 _ _) ?_))
  refine wpAny_mono (tup_eq_run (R := wants (fun v s' => v ≠ .notImplemented ∧ Q v s') E) e hx hy at_ I hs fun s' H2 I2 hs2 => ⟨(fun x => nomatch x), hq s' H2 I2 hs2⟩) (fun fin s' h' => ?_) fun _ _ x => x
  obtain ⟨v, rfl, hv⟩ := h'
  exact hv
end
/-- an own == of a class, that tells its answer and changes nothing -/
structure EqOf (X : Cx) (C f : Addr) (fd : FuncData) (k : Nat) (sp : Sp) : Prop where
  fn : FnOk X.prog X.w X.K X.mg X.base CX0 k f fd ["self", "other"] sp
  bd : Binds X.K fd ["self", "other"] []
  at_ : OwnM X.K C "__eq__" f
section
variable {X : Cx} {C f a : Addr} {fd : FuncData} {k : Nat} {sp : Sp} {H : Hp} {b : Bool} {y : V}
/-- the own def's run, as an answer of a comparison -/
theorem own_run (R : EqOf X C f fd k sp) {A : Around} {E : Value → Shared → Prop} {pins : List (Addr × Obj)} {σ : L2.St} {s : Shared} {H1 : Hp} {u : Value} {Q : Value → Shared → Prop} (at_ : Af X k A) (I : Inv X pins σ H1 s) (ry : RelV y u)
    (p : sp [.ref a, y] H1 (fun v H2 => v = .bl b ∧ Same H1 H2) E0) (hq : ∀ s' H2, Inv X pins σ H2 s' → Same H1 H2 → Q (.bool b) s') : wpAny (model X.prog X.w) A (call (.ref f) [.ref a, u]) (PySem.W.CmpBack Q) E s := by
  refine thn (run_af (vs := [.ref a, y]) (us := [.ref a, u]) R.fn at_ R.bd I (.cons rfl (.cons ry .nil)) p) fun r s' hr => ?_
  obtain ⟨v, H2, I2, rv, rfl, hs2⟩ := hr
  obtain rfl : r = Value.bool b := rv
  exact hq s' H2 I2 hs2
theorem RcU.ownL (R : EqOf X C f fd k sp) {dx : Addr} {fs : List (Str × V)} {t : Value} (h : H a = some (.ins C dx fs)) (ty : ∀ H1, Same H H1 → TyOf X.K H1 y t) (hn : PySem.W.notFirst X.K C t = true)
    (p : ∀ H1, Same H H1 → sp [.ref a, y] H1 (fun v H2 => v = .bl b ∧ Same H1 H2) E0) : RcU X k H (.ref a) y b := by
  intro A E pins σ s H1 u u' Q at_ I hs r1 r2 hq
  obtain rfl : u = Value.ref a := r1
  obtain ⟨ox, od, J⟩ := own_inst I (hs _ _ h)
  obtain ⟨m, hF⟩ := I.fr
  exact PySem.W.cmp_K (op := .Eq) (by have := at_.room.un; omega) hF I.ok.mod.kin J (ty_look I r2 (ty H1 hs)) hn R.at_.at_ R.at_.fn (own_run R at_ I r2 (p H1 hs) hq)
end
/-- == of two tuples that may hold own things -/
def rTupEq (X : Cx) (k : Nat) : R2 := fun x y H Q => ∃ (a c : Addr) (xs ys : List V) (b : Bool), x = .ref a ∧ y = .ref c ∧ H a = some (.tup xs) ∧ H c = some (.tup ys) ∧ EqL X k H xs ys b ∧ ∀ H', Same H H' → Q (.bl (b && xs.length == ys.length)) H'
theorem op_tupEq {X : Cx} {k : Nat} (hr : Room (k + 1) X.A) : OpR X (compareOp .Eq) (rTupEq X k) := by
  intro pins s σ H x y v u Q I rx ry h
  obtain ⟨a, c, xs, ys, b, rfl, rfl, h1, h2, e, q⟩ := h
  refine PySem.W.cmp_ofEq ?_
  exact RcU.tup e h1 h2 X.A X.xe pins σ s H v u _ ⟨I.ok.frames, hr⟩ I (Same.refl _) rx ry fun s' H2 I2 s2 => ⟨.bl _, H2, I2, rfl, q H2 s2⟩
end K2

/-! k05: methods of swaps. -/
namespace K5
open PySem PySem.Spec PyProof.Rows L2 LamX K1 K18

/-- Swap(e, e') -/
structure MkS (P : Program) (w : World) (K : PySem.W.Frag) (mg : Str → Option Value) (base : Heap) (C CH CS CM : Addr) : Prop where
  g : mg "Swap" = some (.ref CS)
  m : ∃ f fd, Mk K CS f ∧ FnOk P w K mg base (L2.CX P w) 8 f fd ["self", "strangers", "hands"] (spSInit C CH CS CM) ∧ Binds K fd ["self", "strangers", "hands"] []
theorem told_new {H H' : Hp} {x dx C d : Addr} {fs : List (Str × V)} (hx : H x = none) (hd : H dx = none) (ne : dx ≠ x) (t : ToldF (upd (upd H dx (.own x)) x (.ins C dx [])) H' d fs) : ToldF H H' d fs := by
  refine ⟨fun c o e => t.same _ _ ?_, ?_, t.at_⟩
  · rw [upd_ne (ne_of_none e hx), upd_ne (ne_of_none e hd)]
    exact e
  · have n := t.new
    have d1 : d ≠ x := by rintro rfl; rw [upd_same] at n; cases n
    rw [upd_ne d1] at n
    have d2 : d ≠ dx := by rintro rfl; rw [upd_same] at n; cases n
    rwa [upd_ne d2] at n
section
variable {C CH CS CM : Addr} {H : Hp} {sa ha : Addr} {ns : List Str} {as : List Addr} {hs : List Hnd} {Q : VK} {E : XK}
theorem mk_swap (sqs : H sa = some (.lst (ns.map V.str))) (sqh : SqA H ha (as.map V.ref)) (hh : Hands C CH H as hs) (ok : SwOk ns hs) (l100 : hs.length ≤ 100)
    (q : hs.length ≤ 40 → ∀ p H', Same H H' → H p = none → SwAt C CH CS H' p ns hs → Q (.ref p) H') (qe : 40 < hs.length → ∀ d H', ToldF H H' d fTooMany → E (.ref CM) (some d) H') :
    ∀ x dx, H x = none → H dx = none → dx ≠ x → spSInit C CH CS CM [.ref x, .ref sa, .ref ha] (upd (upd H dx (.own x)) x (.ins CS dx [])) (fun v H2 => v = .non ∧ Q (.ref x) H2) E := fun x dx hx hd ne => by
  have s1 : Same H (upd (upd H dx (.own x)) x (.ins CS dx [])) := fun o u e => by rw [upd_ne (ne_of_none e hx), upd_ne (ne_of_none e hd)]; exact e
  exact ⟨x, dx, sa, ha, ns, as, hs, rfl, upd_same, s1 _ _ sqs, sqh.same s1, hh.same s1, ok, l100, fun l H' kp sw => ⟨rfl, q l x H' (fun o u e => kp o u (ne_of_none e hx) (s1 o u e)) hx sw⟩, fun l d H' t => qe l d H' (told_new hx hd ne t)⟩
/-- few enough -/
theorem mk_swap0 (sqs : H sa = some (.lst (ns.map V.str))) (sqh : SqA H ha (as.map V.ref)) (hh : Hands C CH H as hs) (ok : SwOk ns hs) (l40 : hs.length ≤ 40)
    (q : ∀ p H', Same H H' → H p = none → SwAt C CH CS H' p ns hs → Q (.ref p) H') :
    ∀ x dx, H x = none → H dx = none → dx ≠ x → spSInit C CH CS CM [.ref x, .ref sa, .ref ha] (upd (upd H dx (.own x)) x (.ins CS dx [])) (fun v H2 => v = .non ∧ Q (.ref x) H2) E :=
  mk_swap sqs sqh hh ok (by omega) (fun _ => q) fun l => absurd l (by omega)
end
theorem SwOk.back {ns : List Str} {hs : List Hnd} (k : SwOk ns hs) : SwOk ns (hs.map Hnd.back) := ⟨k.n2, k.n6, k.nd, k.nm, fun h m => by
  obtain ⟨g, mg, rfl⟩ := List.mem_map.mp m
  obtain ⟨a, b, c⟩ := k.hk g mg
  exact ⟨a.back, c, b⟩⟩
theorem SwOk.app {ns : List Str} {hs ks : List Hnd} (k : SwOk ns hs) (l : SwOk ns ks) : SwOk ns (hs ++ ks) := ⟨k.n2, k.n6, k.nd, k.nm, fun h m => (List.mem_append.mp m).elim (k.hk h) (l.hk h)⟩
def spLen (C CH CS : Addr) : Sp := fun vs H Q _ => ∃ a ns hs, vs = [.ref a] ∧ SwAt C CH CS H a ns hs ∧ Q (.int (hs.length : Nat)) H
def spIter (C CH CS : Addr) : Sp := fun vs H Q _ => ∃ a ns hs, vs = [.ref a] ∧ SwAt C CH CS H a ns hs ∧ ∀ it t as, H t = some (.tup (as.map V.ref)) → Hands C CH H as hs → H it = none → Q (.ref it) (upd H it (ItT t it 0))
def spItem (C CH CS : Addr) : Sp := fun vs H Q _ => ∃ a ns hs i h, vs = [.ref a, .int i] ∧ SwAt C CH CS H a ns hs ∧ 0 ≤ i ∧ hs[i.toNat]? = some h ∧ ∀ p H', Same H H' → HandAt C CH H' p h → Q (.ref p) H'
def spSEq (C CH CS : Addr) : Sp := fun vs H Q _ => ∃ a b ns hs ms ks, vs = [.ref a, .ref b] ∧ SwAt C CH CS H a ns hs ∧ SwAt C CH CS H b ms ks ∧ (∀ n ∈ ns, Nm n) ∧ (∀ n ∈ ms, Nm n) ∧ ∀ H', Same H H' → Q (.bl (decide (ns = ms) && decide (hs = ks))) H'
def spSNeg (C CH CS : Addr) : Sp := fun vs H Q _ => ∃ a ns hs, vs = [.ref a] ∧ SwAt C CH CS H a ns hs ∧ SwOk ns hs ∧ hs.length ≤ 40 ∧ ∀ p H', Same H H' → H p = none → SwAt C CH CS H' p ns (hs.map Hnd.back) → Q (.ref p) H'
/-- no swap -/
def NotSw (K : PySem.W.Frag) (CS : Addr) (H : Hp) (v : V) : Prop := ∃ t, TyOf K H v t ∧ PySem.W.kitOne K t (.ref CS) = some false
theorem NotSw.same {K : PySem.W.Frag} {CS : Addr} {H H' : Hp} {v : V} (s : Same H H') (h : NotSw K CS H v) : NotSw K CS H' v := let ⟨t, a, b⟩ := h; ⟨t, TyOf.keep s a, b⟩
def spSAdd (K : PySem.W.Frag) (C CH CS CW CU CM : Addr) : Sp := fun vs H Q E => ∃ a v ns hs, vs = [.ref a, v] ∧ SwAt C CH CS H a ns hs ∧ SwOk ns hs ∧ hs.length ≤ 50 ∧
  ((NotSw K CS H v ∧ ∀ d H', ToldF H H' d [("part", .str "other")] → E (.ref CW) (some d) H') ∨
   ∃ b ms ks, v = .ref b ∧ SwAt C CH CS H b ms ks ∧ SwOk ms ks ∧ ks.length ≤ 50 ∧
    (ns ≠ ms → ∀ d H', ToldF H H' d [("what", .str "strangers")] → E (.ref CU) (some d) H') ∧
    (ns = ms → (hs.length + ks.length ≤ 40 → ∀ p H', Same H H' → H p = none → SwAt C CH CS H' p ns (hs ++ ks) → Q (.ref p) H') ∧ (40 < hs.length + ks.length → ∀ d H', ToldF H H' d fTooMany → E (.ref CM) (some d) H')))
/-! texts as data -/
theorem dps_S {K : PySem.W.Frag} {H : Hp} : ∀ xs : List Str, DpAll K H (xs.map V.str) (xs.map PyData.str)
  | [] => .nil
  | x :: xs => .cons (.str x) (dps_S xs)
theorem nm_ok {x : Str} (h : Nm x) : PyData.strOk x = true := by
  unfold PyData.strOk
  rw [← Array.all_toList]
  refine List.all_eq_true.mpr fun c m => decide_eq_true ?_
  rcases h.al c m with e | e
  · have := of_decide_eq_true e; omega
  · have := of_decide_eq_true e; omega
theorem strs_lay : ∀ {xs : List Str}, (∀ x ∈ xs, PyData.strOk x = true) → PyData.canLayAll0 (xs.map PyData.str) = true ∧ PyData.depthAll (xs.map PyData.str) ≤ 2
  | [], _ => by simp [PyData.canLayAll0, PyData.depthAll]
  | x :: xs, h => by
    obtain ⟨a, b⟩ := strs_lay (xs := xs) fun y m => h y (List.mem_cons_of_mem _ m)
    have c := h x (List.mem_cons_self ..)
    simp only [List.map_cons, PyData.canLayAll0, PyData.canLay0, PyData.depthAll, PyData.depth, a, c]
    exact ⟨rfl, by omega⟩
theorem strs_sh {xs : List Str} (h : ∀ x ∈ xs, PyData.strOk x = true) : SeqAt.shaped (.tuple (xs.map PyData.str)) = true ∧ SeqAt.shaped (.list (xs.map PyData.str)) = true := by
  obtain ⟨a, b⟩ := strs_lay h
  constructor
  · show (PyData.canLay0 (.tuple (xs.map PyData.str)) && decide (PyData.depth (.tuple (xs.map PyData.str)) ≤ 64)) = true
    simp only [PyData.canLay0, PyData.depth, a, Bool.true_and]
    exact decide_eq_true (by omega)
  · show (PyData.canLay0 (.list (xs.map PyData.str)) && decide (PyData.depth (.list (xs.map PyData.str)) ≤ 64)) = true
    simp only [PyData.canLay0, PyData.depth, a, Bool.true_and]
    exact decide_eq_true (by omega)
theorem strs_eqv : ∀ (xs ys : List Str), PyData.eqv (.tuple (xs.map PyData.str)) (.tuple (ys.map PyData.str)) = decide (xs = ys) := by
  have key : ∀ xs ys : List Str, PyData.eqvAll (xs.map PyData.str) (ys.map PyData.str) = decide (xs = ys) := by
    intro xs
    induction xs with
    | nil => intro ys; cases ys <;> simp [PyData.eqvAll]
    | cons a r ih =>
      intro ys
      cases ys with
      | nil => simp [PyData.eqvAll]
      | cons b s =>
        simp only [List.map_cons, PyData.eqvAll, PyData.eqv, ih]
        by_cases h : a = b
        · subst h; simp
        · simp [h]
  intro xs ys
  rw [PyData.eqv]
  exact key xs ys
end K5

/-! k05: methods of swaps, proved. -/
namespace K5
open PySem PySem.Spec PyProof.Rows L2 LamX K1 K18

theorem All2.cons {α β : Type} {R : α → β → Prop} {x : α} {y : β} {xs : List α} {ys : List β} (h : All2 R (x :: xs) (y :: ys)) : R x y ∧ All2 R xs ys :=
  ⟨h.2 0 x y rfl rfl, by simpa using h.1, fun i a b ea eb => h.2 (i + 1) a b ea eb⟩
theorem six_upd {C : Addr} {H : Hp} {a D : Addr} {s : Int} {xs : List V} {o : HO} (h : H D = some (.lst xs)) (k : Six C H a s) : Six C (upd H D o) a s := let ⟨dx, z⟩ := k; ⟨dx, by rw [upd_ne (ne_of z h (fun z => nomatch z))]; exact z⟩
theorem hand_upd {C CH : Addr} {H : Hp} {a D : Addr} {k : Hnd} {xs : List V} {o : HO} (h : H D = some (.lst xs)) (z : HandAt C CH H a k) : HandAt C CH (upd H D o) a k :=
  let ⟨dx, pc, pd, z1, z2, z3⟩ := z
  ⟨dx, pc, pd, by rw [upd_ne (ne_of z1 h (fun z => nomatch z))]; exact z1, six_upd h z2, six_upd h z3⟩
theorem Six.inj {C : Addr} {H : Hp} {a : Addr} {s t : Int} (h : Six C H a s) (k : Six C H a t) : s = t := by
  obtain ⟨dx, h⟩ := h
  obtain ⟨dy, k⟩ := k
  rw [h] at k
  injection k with k
  injection k with _ _ k
  have e1 := fsR_top (rT s 6) (rB s 6)
  have e2 := fsR_bottom (rT s 6) (rB s 6)
  rw [k, fsR_top] at e1
  rw [k, fsR_bottom] at e2
  exact (six_inj s t).mp ⟨(V.int.inj (Option.some.inj e1)).symm, (V.int.inj (Option.some.inj e2)).symm⟩
theorem HandAt.inj {C CH : Addr} {H : Hp} {a : Addr} {h k : Hnd} (x : HandAt C CH H a h) (y : HandAt C CH H a k) : h = k := by
  obtain ⟨dx, pc, pd, h1, h2, h3⟩ := x
  obtain ⟨dy, qc, qd, k1, k2, k3⟩ := y
  rw [h1] at k1
  injection k1 with k1
  injection k1 with _ _ k1
  have e1 := fh_g h.g h.t pc pd
  have e2 := fh_t h.g h.t pc pd
  have e3 := fh_c h.g h.t pc pd
  have e4 := fh_d h.g h.t pc pd
  rw [k1, fh_g] at e1
  rw [k1, fh_t] at e2
  rw [k1, fh_c] at e3
  rw [k1, fh_d] at e4
  obtain rfl := V.ref.inj (Option.some.inj e3)
  obtain rfl := V.ref.inj (Option.some.inj e4)
  have c := h2.inj k2
  have d := h3.inj k3
  have g := V.str.inj (Option.some.inj e1)
  have t := V.str.inj (Option.some.inj e2)
  cases h; cases k
  simp_all
section
variable {P : Program} {w : World} {K : PySem.W.Frag} {mg : Str → Option Value} {base : Heap} {f C CH CS CW CD CI CT CU CM : Addr} {fd : FuncData}
/-- == of hand-overs' lists -/
theorem hands_eq {X : Cx} {k : Nat} {H : Hp} {fe : Addr} {fde : FuncData} (R : K2.EqOf X CH fe fde k (spHEq C CH)) (RH : HandF X.K CH) (nf : PySem.W.notFirst X.K CH (.ref CH) = true) :
    ∀ {as bs : List Addr} {hs ks : List Hnd}, Hands C CH H as hs → Hands C CH H bs ks → ∃ b, K2.EqL X k H (as.map V.ref) (bs.map V.ref) b ∧ (b && (as.map V.ref).length == (bs.map V.ref).length) = decide (hs = ks) := by
  intro as
  induction as with
  | nil =>
    intro bs hs ks h1 h2
    cases hs with
    | cons => have := h1.1; simp at this
    | nil =>
      refine ⟨true, .nilL, ?_⟩
      cases bs with
      | nil => cases ks with
        | nil => simp
        | cons => have := h2.1; simp at this
      | cons => cases ks with
        | nil => have := h2.1; simp at this
        | cons => simp
  | cons a as ih =>
    intro bs hs ks h1 h2
    cases hs with
    | nil => have := h1.1; simp at this
    | cons h hs =>
      cases bs with
      | nil =>
        cases ks with
        | nil => exact ⟨true, .nilR, by simp⟩
        | cons => have := h2.1; simp at this
      | cons b bs =>
        cases ks with
        | nil => have := h2.1; simp at this
        | cons m ks =>
          obtain ⟨x1, x2⟩ := h1.cons
          obtain ⟨y1, y2⟩ := h2.cons
          obtain ⟨bb, e, eb⟩ := ih x2 y2
          have run : K2.EqU X k H (.ref a) (.ref b) (decide (h = m)) := by
            obtain ⟨dx, pc, pd, z1, _, _⟩ := id x1
            refine K2.EqU.of_rc (fun e => ?_) (K2.RcU.ownL R (t := .ref CH) z1 (fun H1 s1 => ?_) nf fun H1 s1 => ⟨a, b, h, m, rfl, x1.same s1, y1.same s1, rfl, Same.refl _⟩)
            · subst e; exact decide_eq_true (x1.inj y1)
            · obtain ⟨dy, qc, qd, w1, _, _⟩ := y1
              exact RH.ty (s1 _ _ w1)
          by_cases hm : h = m
          · rw [decide_eq_true hm] at run
            refine ⟨bb, .yes run e, ?_⟩
            subst hm
            simpa using eb
          · rw [decide_eq_false hm] at run
            refine ⟨false, .no run, ?_⟩
            simp [hm]
abbrev HasHnd (P : Program) (w : World) (K : PySem.W.Frag) (mg : Str → Option Value) (base : Heap) (CI : Addr) : Prop := Has P w K mg base (L2.CX P w) 4 "check_hand" ["many", "value"] (spHand K CI)
theorem scLen : FnScope ["self"] ["self"] (defScope sSLen) := ⟨rfl, rfl, rfl, by decide +kernel, rfl, by decide +kernel, by decide +kernel⟩
theorem ok_slen (G : Glob mg) (R : SwapF K CS) (F : DefAt K "__len__" "Swap.__len__" sSLen f fd) : FnOk P w K mg base CX0 1 f fd ["self"] (spLen C CH CS) := by
  refine okN F scLen (fun vs H Q E ⟨a, ns, hs, e, _⟩ => by rw [e]; rfl) (fun cdv A outer s H vs Q E hr ⟨a, ns, hs, e, ha, q⟩ => ?_)
  subst e
  refine ⟨_, pss_one (ps_ret (pe_callB (r := rLenA K) (call_lenA rfl) (by rfl) G.len PySem.boot_len (pa_cons (pe_fld (pv 0) rfl) pa_nil))), ?_⟩
  obtain ⟨dx, ps, ph, pn, as, nas, h1, h2, h3, h4, h5, h6⟩ := ha
  refine ⟨_, rfl, a, CS, dx, _, _, rfl, h1, R.cl, R.nH, fs_h _ _ _, ph, _, rfl, .inr (SqT.of h3), ?_⟩
  rw [List.length_map, h4.1]
  exact q
theorem scIter : FnScope ["self"] ["self"] (defScope sSIter) := ⟨rfl, rfl, rfl, by decide +kernel, rfl, by decide +kernel, by decide +kernel⟩
theorem ok_siter (G : Glob mg) (R : SwapF K CS) (F : DefAt K "__iter__" "Swap.__iter__" sSIter f fd) : FnOk P w K mg base CX0 1 f fd ["self"] (spIter C CH CS) := by
  refine okN F scIter (fun vs H Q E ⟨a, ns, hs, e, _⟩ => by rw [e]; rfl) (fun cdv A outer s H vs Q E hr ⟨a, ns, hs, e, ha, q⟩ => ?_)
  subst e
  refine ⟨_, pss_one (ps_ret (pe_callB (call_iterT rfl) (by rfl) G.iter (by decide +kernel) (pa_cons (pe_fld (pv 0) rfl) pa_nil))), ?_⟩
  obtain ⟨dx, ps, ph, pn, as, nas, h1, h2, h3, h4, h5, h6⟩ := ha
  exact ⟨_, rfl, a, CS, dx, _, _, rfl, h1, R.cl, R.nH, fs_h _ _ _, ph, _, rfl, SqT.of h3, fun it nit => q it ph as h3 h4 nit⟩
theorem scItem : FnScope ["self", "at"] ["self", "at"] (defScope sSItem) := ⟨rfl, rfl, rfl, by decide +kernel, rfl, by decide +kernel, by decide +kernel⟩
theorem ok_sitem (G : Glob mg) (R : SwapF K CS) (HH : HasHnd P w K mg base CI) (F : DefAt K "__getitem__" "Swap.__getitem__" sSItem f fd) : FnOk P w K mg base CX0 5 f fd ["self", "at"] (spItem C CH CS) := by
  obtain ⟨fc, fdc, mC, kC, bC, GC⟩ := HH.h
  refine okN F scItem (fun vs H Q E ⟨a, ns, hs, i, h, e, _⟩ => by rw [e]; rfl) (fun cdv A outer s H vs Q E hr ⟨a, ns, hs, i, h, e, ha, i0, hi, q⟩ => ?_)
  subst e
  refine ⟨_, pss_cons (ps_expr (pe_call (E := E0) GC hr rfl mC kC bC .nil passL (pa_cons (pe_callB (r := rLenA K) (call_lenA rfl) (by rfl) G.len PySem.boot_len (pa_cons (pe_fld (pv 0) rfl) pa_nil)) (pa_cons (pv 1) pa_nil))))
    (pss_one (ps_ret (pe_ix ix_tup (pe_fld (pv 0) rfl) (pv 1) (fun _ _ => rfl)))), ?_⟩
  obtain ⟨dx, ps, ph, pn, as, nas, h1, h2, h3, h4, h5, h6⟩ := ha
  obtain ⟨p, hp, hat⟩ := h4.getR hi
  have li := (List.getElem?_eq_some_iff.mp hp).1
  refine ⟨_, rfl, a, CS, dx, _, _, rfl, h1, R.cl, R.nH, fs_h _ _ _, ph, _, rfl, .inr (SqT.of h3), _, rfl, _, _, rfl, .inl ⟨i, rfl, ⟨i0, by rw [List.length_map]; omega⟩, fun H1 s1 => ?_⟩⟩
  refine ⟨_, rfl, a, CS, dx, _, _, rfl, s1 _ _ h1, R.cl, R.nH, fs_h _ _ _, _, rfl, ph, as.map V.ref, i, .ref p, rfl, rfl, SqT.of (s1 _ _ h3), ?_, q p H1 s1 (hat.same s1)⟩
  have z := atI_nat (xs := as.map V.ref) (j := i.toNat) (v := .ref p) (by rw [List.getElem?_map, hp]; rfl)
  rwa [Int.toNat_of_nonneg i0] at z
end
end K5

/-! k05: + of swaps; check_swap, done_set, sums, handed_back, portion. -/
namespace K5
open PySem PySem.Spec PyProof.Rows L2 LamX K1 K18

def spCheck (K : PySem.W.Frag) (C CH CS CW : Addr) : Sp := fun vs H Q E => ∃ v, vs = [v] ∧ ((∃ a ns hs, v = .ref a ∧ SwAt C CH CS H a ns hs ∧ Q .non H) ∨ (NotSw K CS H v ∧ ∀ d H', ToldF H H' d [("part", .str "swap")] → E (.ref CW) (some d) H'))
section
variable {P : Program} {w : World} {K : PySem.W.Frag} {mg : Str → Option Value} {base : Heap} {f C CH CS CW CD CI CT CU CM : Addr} {fd : FuncData}
theorem scCheck : FnScope ["swap"] ["swap"] (defScope sCheckSwap) := ⟨rfl, rfl, rfl, by decide +kernel, rfl, by decide +kernel, by decide +kernel⟩
theorem ok_check (G : Glob mg) (R : SwapF K CS) (gS : mg "Swap" = some (.ref CS)) (B : Errs P w K mg base CW CD CI CT CU CM) (F : DefAt K "check_swap" "check_swap" sCheckSwap f fd) : FnOk P w K mg base (L2.CX P w) 3 f fd ["swap"] (spCheck K C CH CS CW) := by
  refine okX F scCheck (fun vs H Q E ⟨v, e, _⟩ => by rw [e]; rfl) (fun cdv A outer s H vs Q E hr ⟨v, e, h⟩ => ?_)
  subst e
  have tk : Takes (cxOf (L2.CX P w) P w K mg base ["swap"] "check_swap" (defScope sCheckSwap) f cdv A outer s H E) (fun cls d _ H' => E cls d H') := takes_of rfl rfl rfl rfl
  refine ⟨_, pss_one (ps_if (pt_not (pt_val (pe_callB call_isi (by rfl) G.isi (by decide +kernel) (pa_cons (pv 0) (pa_cons (pe_glob (v := .ref CS) rfl gS rfl) pa_nil))))) (pss_one (ps_rs B.swap rfl tk hr (pa_cons pe_str pa_nil))) pss_nil), ?_⟩
  rcases h with ⟨a, ns, hs, rfl, ⟨dx, pp, ph, pn, as, nas, h1, _⟩, q⟩ | ⟨⟨t, ty, k1⟩, q⟩
  · exact ⟨_, rfl, _, _, _, _, _, rfl, .own CS, .base (R.ty h1), R.me, true, rfl, iteF q⟩
  · exact ⟨_, rfl, _, _, _, _, _, rfl, .own CS, .base ty, k1, false, rfl, iteT (rs_c q)⟩
/-- the length of a swap, the def itself -/
structure LenO (P : Program) (w : World) (K : PySem.W.Frag) (mg : Str → Option Value) (base : Heap) (C CH CS : Addr) : Prop where
  o : Own P w K mg base CS CX0 1 "__len__" ["self"] (spLen C CH CS)
abbrev HasCheck (P : Program) (w : World) (K : PySem.W.Frag) (mg : Str → Option Value) (base : Heap) (C CH CS CW : Addr) : Prop := Has P w K mg base (L2.CX P w) 3 "check_swap" ["swap"] (spCheck K C CH CS CW)
/-! ### sums -/
/-- the sum that one has at a done set -/
def effs (hs : List Hnd) (ks : List Nat) (n : Str) : Int := (ks.map fun k => match hs[k]? with | some h => h.eff n | none => 0).sum
def kV (ks : List Nat) : List V := ks.map fun k : Nat => V.int k
/-- swap[number] -/
structure ItemO (P : Program) (w : World) (K : PySem.W.Frag) (mg : Str → Option Value) (base : Heap) (C CH CS : Addr) : Prop where
  h : ∃ f fd, OwnM K CS "__getitem__" f ∧ PySem.W.fnIn K f = true ∧ Binds K fd ["self", "at"] [] ∧ FnOk P w K mg base CX0 5 f fd ["self", "at"] (spItem C CH CS)
end
end K5

/-! k44: the law's vane and blow. -/
namespace K5
open PySem PySem.Spec PyProof.Rows L2 LamX K1 K18

/-- ** of ints of any size, the power's bits bounded -/
def CPowV (i j : Int) : Prop := 0 ≤ j ∧ j ≤ 1000 ∧ i.natAbs.log2 < 10000
theorem op_powV {X : Cx} : OpR X (binaryOp .Pow) (rI CPowV fun i j => .int (i ^ j.toNat)) := opI fun i j _ _ _ _ _ hc q => by
  obtain ⟨h0, h1, h2⟩ := hc
  have b : (Builtin.Int.intBits i : Int) ≤ 10000 := by
    have : Builtin.Int.intBits i ≤ i.natAbs.log2 + 1 := by unfold Builtin.Int.intBits; split <;> omega
    omega
  have c : (Builtin.Int.intBits i : Int) * j ≤ 10000 * 1000 := Int.le_trans (Int.mul_le_mul_of_nonneg_right b h0) (Int.mul_le_mul_of_nonneg_left h1 (by decide))
  exact pow_int h0 (Int.le_trans c (by decide)) q
/-- the pen: its cells, how many draws were begun (n at most), the rest of a great one -/
def Pen (H : Hp) (p c : Addr) (n : Nat) : Prop := ∃ (cs : List Int) (t r : Int), H p = some (.lst [.ref c, .int t, .int r]) ∧ H c = some (.lst (cs.map V.int)) ∧ cs.length ≤ 63 ∧ 0 ≤ t ∧ t ≤ n
theorem Pen.same {H H' : Hp} {p c : Addr} {n : Nat} (s : Same H H') (h : Pen H p c n) : Pen H' p c n := let ⟨cs, t, r, a, b, z⟩ := h; ⟨cs, t, r, s _ _ a, s _ _ b, z⟩
theorem Pen.mono {H : Hp} {p c : Addr} {n k : Nat} (h : Pen H p c n) (l : n ≤ k) : Pen H p c k := let ⟨cs, t, r, a, b, z, u, v⟩ := h; ⟨cs, t, r, a, b, z, u, by omega⟩
theorem Pen.upd {H : Hp} {p c a : Addr} {o : HO} {n : Nat} (h : Pen H p c n) (h1 : p ≠ a) (h2 : c ≠ a) : Pen (upd H a o) p c n := let ⟨cs, t, r, x, y, z⟩ := h; ⟨cs, t, r, (upd_ne h1).trans x, (upd_ne h2).trans y, z⟩
theorem Pen.ne {H : Hp} {p c a : Addr} {n : Nat} (h : Pen H p c n) (e : H a = none) : p ≠ a ∧ c ≠ a := let ⟨_, _, _, x, y, _⟩ := h; ⟨ne_of_none x e, ne_of_none y e⟩
def spPen (K : PySem.W.Frag) : Sp := fun vs H Q _ => ∃ (a : Addr) (ns : List Int), vs = [.ref a] ∧ SqL K H a (ns.map V.int) ∧ ns.length ≤ 63 ∧ ∀ (p c : Addr) (H' : Hp), Same H H' → H p = none → H c = none → Pen H' p c 0 → Q (.ref p) H'
def spDraw : Sp := fun vs H Q _ => ∃ (p c : Addr) (m : Int) (n : Nat), vs = [.ref p, .int m] ∧ Pen H p c n ∧ n < 100000 ∧ 0 < m ∧ m < 2 ^ 64 ∧ ∀ (r : Int) (H' : Hp), 0 ≤ r → r < m → Keep p H H' → Pen H' p c (n + 1) → Q (.int r) H'
theorem cut_in {xs : List V} {lo hi : Option Int} {i : Nat} {x : V} (h : (cutV xs lo hi)[i]? = some x) : x ∈ xs := List.mem_of_mem_drop (List.mem_of_mem_take (List.mem_of_getElem? h))
theorem cut_le {xs : List V} {lo hi : Option Int} : (cutV xs lo hi).length ≤ xs.length := by
  unfold cutV
  rw [List.length_take, List.length_drop]
  omega
section
variable {P : Program} {w : World} {K : PySem.W.Frag} {mg : Str → Option Value} {base : Heap} {f : Addr} {fd : FuncData}
abbrev nPen : List Str := ["_law_script", "_law_cell"]
theorem scPen : FnScope nPen ["_law_script"] (defScope sVane) := ⟨rfl, rfl, rfl, by decide +kernel, rfl, by decide +kernel, by decide +kernel⟩
theorem ok_pen (G : Glob mg) (F : DefAt K "_law_vane" "_law_vane" sVane f fd) : FnOk P w K mg base CX0 1 f fd ["_law_script"] (spPen K) := by
  refine okN F scPen (fun vs H Q E ⟨a, ns, e, _⟩ => by rw [e]; rfl) (fun cdv A outer s H vs Q E hr ⟨a, ns, e, sq, l, q⟩ => ?_)
  subst e
  refine ⟨_, pss_one (ps_ret (pe_lst (pa_cons
    (pe_lc (own := [("_law_cell", 1)]) (g := gName 1) (tt := tYes) rfl scPen.nd (pi_list (pe_slice sl_list (pv 0) po_none (po_some pe_int))) (blkOk_by (N := nPen) (sc := defScope sVane) (by decide +kernel))
      (fun _ _ _ _ _ => pg_name (i := 1) scPen.nd rfl (Or.inl rfl)) (fun _ _ _ _ _ => pts_nil) (fun _ _ _ _ _ => pe_callTy call_int1 (by rfl) G.int (by decide +kernel) (pa_cons (pv 1) pa_nil)))
    (pa_cons pe_int (pa_cons pe_int pa_nil))))), ?_⟩
  refine ⟨_, rfl, 59, rfl, a, _, rfl, sq, fun p0 np0 => ?_⟩
  have s0 := upd_new (o := .lst (cutV (ns.map V.int) none (some 59))) np0
  have lc : (cutV (ns.map V.int) none (some 59)).length ≤ 63 := by
    refine Nat.le_trans cut_le ?_
    rw [List.length_map]
    exact l
  refine ⟨p0, rfl, ⟨_, SqL.of upd_same⟩, fun D hD => ?_⟩
  have hp0 : upd H p0 (.lst (cutV (ns.map V.int) none (some 59))) p0 = some (.lst (cutV (ns.map V.int) none (some 59))) := upd_same
  have pD : p0 ≠ D := ne_of_none hp0 hD
  refine lc_list (K := K) (a := p0) (xs := cutV (ns.map V.int) none (some 59)) (fun i H2 => ∃ cs : List Int, cs.length = i ∧ H2 = upd (upd H p0 (.lst (cutV (ns.map V.int) none (some 59)))) D (.lst (cs.map V.int)))
    ⟨[], rfl, rfl⟩ (fun i H2 _ ⟨cs, _, e⟩ => by rw [e]; exact SqL.of ((upd_ne pD).trans hp0)) ?_ ?_
  · rintro i y H2 hy ⟨cs, lcs, rfl⟩
    obtain ⟨n, _, rfl⟩ := List.mem_map.mp (cut_in hy)
    have hi := (List.getElem?_eq_some_iff.mp hy).1
    refine ⟨rfl, yes_of ⟨_, rfl, .inl ⟨_, rfl, _, upd_same, ?_, cs ++ [n], by simp [lcs], ?_⟩⟩⟩
    · rw [List.length_map, sizeLine_eq]; omega
    · rw [upd_upd, List.map_append]
      rfl
  · rintro H2 ⟨cs, lcs, rfl⟩
    refine ⟨(by show 3 ≤ sizeLine; decide), fun p hp => ?_⟩
    have s2 : Same H (upd (upd H p0 (.lst (cutV (ns.map V.int) none (some 59)))) D (.lst (cs.map V.int))) := fun b o e => by rw [upd_ne (ne_of_none (s0 _ _ e) hD)]; exact s0 _ _ e
    refine q p D _ (s2.trans (upd_new hp)) (s2.free hp) (s0.free hD) ⟨cs, 0, 0, upd_same, upd_new hp _ _ upd_same, by omega, by decide, by decide⟩
theorem eqvAll_map {α : Type} [DecidableEq α] {f : α → PyData} (h : ∀ a b, PyData.eqv (f a) (f b) = decide (a = b)) : ∀ as bs : List α, PyData.eqvAll (as.map f) (bs.map f) = decide (as = bs)
  | [], [] => by simp [PyData.eqvAll]
  | [], _ :: _ => by simp [PyData.eqvAll]
  | _ :: _, [] => by simp [PyData.eqvAll]
  | a :: as, b :: bs => by
    rw [List.map_cons, List.map_cons, PyData.eqvAll, h, eqvAll_map h as bs]
    by_cases e : a = b <;> by_cases e2 : as = bs <;> simp [e, e2]
theorem lay_all {α : Type} {f : α → PyData} (h : ∀ a, (f a).canLay0 = true) : ∀ as : List α, PyData.canLayAll0 (as.map f) = true
  | [] => rfl
  | a :: as => by rw [List.map_cons, PyData.canLayAll0, h a, lay_all h as]; rfl
theorem deep_all {α : Type} {f : α → PyData} (h : ∀ a, (f a).depth ≤ 8) : ∀ as : List α, PyData.depthAll (as.map f) ≤ 8
  | [] => by simp [PyData.depthAll]
  | a :: as => by
    rw [List.map_cons, PyData.depthAll]
    have := h a
    have := deep_all h as
    omega
theorem shaped_tup {α : Type} {f : α → PyData} (h : ∀ a, (f a).canLay0 = true) (d : ∀ a, (f a).depth ≤ 8) (as : List α) : SeqAt.shaped (.tuple (as.map f)) = true ∧ SeqAt.shaped (.list (as.map f)) = true := by
  have l := lay_all h as
  have e := deep_all d as
  constructor
  · show (PyData.canLay0 (.tuple (as.map f)) && decide (PyData.depth (.tuple (as.map f)) ≤ 64)) = true
    rw [PyData.canLay0, l, PyData.depth, decide_eq_true (by omega)]; rfl
  · show (PyData.canLay0 (.list (as.map f)) && decide (PyData.depth (.list (as.map f)) ≤ 64)) = true
    rw [PyData.canLay0, l, PyData.depth, decide_eq_true (by omega)]; rfl
theorem dps_I {K : PySem.W.Frag} {H : Hp} : ∀ l : List Int, DpAll K H (l.map V.int) (l.map PyData.int)
  | [] => .nil
  | n :: l => .cons (.int n) (dps_I l)
theorem sh_lI (l : List Int) : SeqAt.shaped (.list (l.map PyData.int)) = true := (shaped_tup (f := PyData.int) (fun n => by simp [PyData.canLay0]) (fun n => by simp [PyData.depth]) l).2
theorem sh_tI (l : List Int) : SeqAt.shaped (.tuple (l.map PyData.int)) = true := (shaped_tup (f := PyData.int) (fun n => by simp [PyData.canLay0]) (fun n => by simp [PyData.depth]) l).1
theorem eqv_nil {l : List PyData} : PyData.eqv (.list l) (.list []) = decide (l = []) := by
  rw [PyData.eqv]
  cases l with
  | nil => simp [PyData.eqvAll]
  | cons a l => simp [PyData.eqvAll]
theorem log2_of {i : Int} {b : Nat} (h : i.natAbs < 2 ^ b) (h0 : 0 < b) (h9 : b ≤ 10000) : i.natAbs.log2 < 10000 := Nat.lt_of_lt_of_le (PySem.Flt.log2_lt_of h0 h) h9
/-- a test that only reads, whatever it says -/
theorem if_any {tt : TT} {A B C : TS} {D : Ends} {σ : L2.St} {H : Hp} (h : ∀ Q' : Bool → Hp → Prop, (∀ b, Q' b H) → tt σ H Q') (go : ∀ b : Bool, if b = true then A { D with nx := C D } σ H else B { D with nx := C D } σ H) : tSeq (tIfS tt A B) C D σ H := h _ go
/-- one name set, if so -/
theorem asg_if {b : Bool} {te : TE} {k : Nat} {D : Ends} {σ : L2.St} {H : Hp} (ok : V → Prop) (val : b = true → ∀ Q : VK, (∀ v, ok v → Q v H) → te σ H Q) (els : b = false → ∃ v, σ[k]? = some (some v) ∧ ok v) (go : ∀ v, ok v → D.nx (σ.set k (some v)) H) :
    if b = true then tAsg te (gName k) D σ H else D.nx σ H := by
  cases b with
  | true => exact iteT (val rfl _ fun v hv => go v hv)
  | false =>
    obtain ⟨v, e, hv⟩ := els rfl
    have z := go v hv
    obtain ⟨hk, e2⟩ := List.getElem?_eq_some_iff.mp e
    rw [← e2, List.set_getElem_self] at z
    exact iteF z
theorem theKeep {p : Addr} {H H' : Hp} (s : Same H H') : Keep p H H' := fun c o _ e => s c o e
abbrev nDraw : List Str := ["_law_vane_here", "_law_many", "_law_rest", "_law_turn", "_law_cell", "_law_mixed"]
theorem scDraw : FnScope nDraw ["_law_vane_here", "_law_many"] (defScope sBlow) := ⟨rfl, rfl, rfl, by decide +kernel, rfl, by decide +kernel, by decide +kernel⟩
theorem ok_draw (G : Glob mg) (F : DefAt K "_law_blow" "_law_blow" sBlow f fd) : FnOk P w K mg base CX0 1 f fd ["_law_vane_here", "_law_many"] spDraw := by
  refine okN F scDraw (fun vs H Q E ⟨p, c, m, n, e, _⟩ => by rw [e]; rfl) (fun cdv A outer s H vs Q E hr ⟨p, c, m, n, e, sk, hn, m0, m1, q⟩ => ?_)
  subst e
  have hu64 : (A.deeper (envOfC "_law_blow" (defScope sBlow) s.heap.objs.size f cdv)).units + 64 < cLine := by have := hr.un; omega
  refine ⟨_, pss_cons (ps_if (pt_cmpR op_gt (pe_ix ix_list (pv 0) pe_int (fun _ _ => rfl)) pe_int (nomark _))
      (pss_cons (ps_set (i := 2) scDraw.nd rfl (Or.inl rfl) (pe_ix ix_list (pv 0) pe_int (fun _ _ => rfl)))
      (pss_cons (ps_asg (pe_op op_fdivW (pe_callTy call_int1 (by rfl) G.int (by decide +kernel) (pa_cons (pv 2) pa_nil)) (pv 1)) (pg_sub (pv 0) pe_int set_list))
      (pss_one (ps_ret (pe_op op_mod (pe_callTy call_int1 (by rfl) G.int (by decide +kernel) (pa_cons (pv 2) pa_nil)) (pv 1)))))) pss_nil)
    (pss_cons (ps_set (i := 3) scDraw.nd rfl (Or.inl rfl) (pe_ix ix_list (pv 0) pe_int (fun _ _ => rfl)))
    (pss_cons (ps_asg (pe_op op_add (pv 3) pe_int) (pg_sub (pv 0) pe_int set_list))
    (pss_cons (ps_set (i := 4) scDraw.nd rfl (Or.inl rfl) (pe_op op_add (pe_op op_mul pe_int (pv 3)) pe_int))
    (pss_cons (ps_if (pt_cmpR (op_neD hu64) (pe_ix ix_list (pv 0) pe_int (fun _ _ => rfl)) (pe_lst pa_nil) (nomark _))
      (pss_one (ps_set (i := 4) scDraw.nd rfl (Or.inl rfl) (pe_ix ix_list (pe_ix ix_list (pv 0) pe_int (fun _ _ => rfl)) (pe_op op_mod (pe_callTy call_int1 (by rfl) G.int (by decide +kernel) (pa_cons (pv 3) pa_nil))
        (pe_callB (r := rLenA K) (call_lenA rfl) (by rfl) G.len PySem.boot_len (pa_cons (pe_ix ix_list (pv 0) pe_int (fun _ _ => rfl)) pa_nil))) (fun _ _ => rfl)))) pss_nil)
    (pss_cons (ps_if (PW.pt (pw_and (pt_cmpR op_lt (pv 3) (pe_callB (r := rLenA K) (call_lenA rfl) (by rfl) G.len PySem.boot_len (pa_cons (pe_ix ix_list (pv 0) pe_int (fun _ _ => rfl)) pa_nil)) (nomark _))
        (pw_and1 (pt_cmpR op_ge (pe_callB call_abs (by rfl) G.abs (by decide +kernel) (pa_cons (pv 4) pa_nil)) (pe_op op_pow pe_int pe_int) (nomark _)))))
      (pss_cons (ps_set (i := 2) scDraw.nd rfl (Or.inl rfl) (pe_op op_add (pe_op op_mul pe_int (pe_op op_sub (pe_callB call_abs (by rfl) G.abs (by decide +kernel) (pa_cons (pv 4) pa_nil)) (pe_op op_pow pe_int pe_int)))
        (pe_callTy call_int1 (by rfl) G.int (by decide +kernel) (pa_cons (pe_cmpR op_lt (pv 4) pe_int (nomark _)) pa_nil))))
      (pss_cons (ps_asg (pe_op op_fdivW (pe_callTy call_int1 (by rfl) G.int (by decide +kernel) (pa_cons (pv 2) pa_nil)) (pv 1)) (pg_sub (pv 0) pe_int set_list))
      (pss_one (ps_ret (pe_op op_mod (pe_callTy call_int1 (by rfl) G.int (by decide +kernel) (pa_cons (pv 2) pa_nil)) (pv 1)))))) pss_nil)
    (pss_cons (ps_set (i := 5) scDraw.nd rfl (Or.inl rfl) (pe_op op_mod (pe_callTy call_int1 (by rfl) G.int (by decide +kernel) (pa_cons
        (pe_op op_powV (pe_op op_add (pe_op op_add (pe_op op_mod (pe_callTy call_int1 (by rfl) G.int (by decide +kernel) (pa_cons (pv 4) pa_nil)) pe_int) (pe_op op_mul pe_int (pv 3))) pe_int) pe_int) pa_nil)) pe_int))
    (pss_cons (ps_set (i := 5) scDraw.nd rfl (Or.inl rfl) (pe_op op_mod (pe_callTy call_int1 (by rfl) G.int (by decide +kernel) (pa_cons
        (pe_op op_powV (pe_op op_add (pe_op op_add (pe_op op_mul (pv 5) (pe_op op_add (pe_op op_mul pe_int (pv 3)) pe_int)) (pe_op op_mul (pe_op op_mul pe_int (pv 3)) (pv 3))) pe_int) pe_int) pa_nil)) pe_int))
    (pss_one (ps_ret (pe_op op_mod (pe_callTy call_int1 (by rfl) G.int (by decide +kernel) (pa_cons (pe_op op_fdiv (pv 5) pe_int) pa_nil)) (pv 1))))))))))), ?_⟩
  obtain ⟨cs, t, r, hp, hc, lc, t0, tn⟩ := sk
  have at0 : ∀ {a b c : V}, atI [a, b, c] 0 = some a := atI_nat (j := 0) rfl
  have at1 : ∀ {a b c : V}, atI [a, b, c] 1 = some b := atI_nat (j := 1) rfl
  have at2 : ∀ {a b c : V}, atI [a, b, c] 2 = some c := atI_nat (j := 2) rfl
  have cp : c ≠ p := by
    rintro rfl
    rw [hp] at hc
    injection hc with hc
    injection hc with hc
    cases cs with
    | nil => cases hc
    | cons a l => injection hc with h1 _; cases h1
  have dv : ∀ x, CDivW x m := fun x => wide_div (b := 300) m0 (by omega) (by decide) (by decide)
  have md : ∀ x : Int, 0 ≤ x % m ∧ x % m < m := fun x => ⟨Int.emod_nonneg _ (by omega), Int.emod_lt_of_pos _ m0⟩
  have fin : ∀ (H1 : Hp) (x t' r' : Int), Keep p H H1 → H1 p = some (.lst [.ref c, .int t', .int r']) → 0 ≤ t' → t' ≤ n + 1 → Q (.int (x % m)) H1 := fun H1 x t' r' k hp' z1 z2 =>
    q (x % m) H1 (md x).1 (md x).2 k ⟨cs, t', r', hp', k c _ cp hc, lc, z1, by omega⟩
  refine ⟨_, rfl, p, _, _, _, rfl, rfl, SqL.of hp, at2, _, _, rfl, rfl, _, rfl, ?_⟩
  by_cases hr0 : (0 : Int) < r
  · rw [decide_eq_true hr0]
    refine iteT ?_
    refine ⟨_, rfl, p, _, _, _, rfl, rfl, SqL.of hp, at2, ?_⟩
    refine ⟨_, rfl, .inl ⟨_, rfl, _, rfl, _, _, rfl, rfl, dv _, _, rfl, p, _, _, 2, rfl, rfl, hp, rfl, ?_⟩⟩
    exact ⟨_, rfl, .inl ⟨_, rfl, _, rfl, _, _, rfl, rfl, m0, fin _ r t (r / m) Keep.upd upd_same t0 (by omega)⟩⟩
  rw [decide_eq_false hr0]
  refine iteF ?_
  refine ⟨_, rfl, p, _, _, _, rfl, rfl, SqL.of hp, at1, ?_⟩
  refine ⟨_, rfl, _, _, rfl, rfl, _, rfl, p, _, _, 1, rfl, rfl, hp, rfl, ?_⟩
  have hp1 : upd H p (.lst ([V.ref c, .int t, .int r].set 1 (.int (t + 1)))) p = some (.lst [.ref c, .int (t + 1), .int r]) := upd_same
  generalize eH1 : upd H p (.lst ([V.ref c, .int t, .int r].set 1 (.int (t + 1)))) = H1 at hp1 ⊢
  have k1 : Keep p H H1 := eH1 ▸ Keep.upd
  have hc1 := k1 c _ cp hc
  refine ⟨_, rfl, _, _, rfl, rfl, .inl ⟨by decide, by decide⟩, _, _, rfl, rfl, ?_⟩
  refine ⟨_, rfl, p, _, _, _, rfl, rfl, SqL.of hp1, at0, (by show 0 ≤ sizeLine; omega), fun e0 ne0 => ?_⟩
  have sE := upd_new (o := .lst []) ne0
  generalize eH2 : upd H1 e0 (.lst []) = H2 at sE ⊢
  have he0 : H2 e0 = some (.lst []) := eH2 ▸ upd_same
  have hp2 := sE _ _ hp1
  have hc2 := sE _ _ hc1
  have k2 : Keep p H H2 := k1.trans (theKeep sE)
  refine ⟨.list (cs.map PyData.int), .list [], .lst (SqL.of hc2) (dps_I cs), .lst (SqL.of he0) .nil, sh_lI cs, sh_lI [], _, rfl, ?_⟩
  rw [eqv_nil]
  refine asg_if (ok := fun v => ∃ i : Int, v = .int i) (fun hb Q2 k => ?_) (fun _ => ⟨_, rfl, _, rfl⟩) ?_
  · have ne : cs ≠ [] := by
      rintro rfl
      simp at hb
    have l0 : 0 < cs.length := List.length_pos_iff.mpr ne
    have j0 := Int.emod_nonneg t (show (cs.length : Int) ≠ 0 by omega)
    have j1 := Int.emod_lt_of_pos t (show (0 : Int) < cs.length by omega)
    refine ⟨_, rfl, p, _, _, _, rfl, rfl, SqL.of hp2, at0, ?_⟩
    refine ⟨_, rfl, .inl ⟨_, rfl, _, rfl, p, _, _, _, rfl, rfl, SqL.of hp2, at0, c, _, rfl, .inl (SqL.of hc2), ?_⟩⟩
    rw [List.length_map]
    refine ⟨_, _, rfl, rfl, (by omega), c, _, _, .int (cs.getD (t % (cs.length : Int)).toNat 0), rfl, rfl, SqL.of hc2, ?_, k _ ⟨_, rfl⟩⟩
    have e := atI_nat (xs := cs.map V.int) (j := (t % (cs.length : Int)).toNat) (v := .int (cs.getD (t % (cs.length : Int)).toNat 0)) (by
      rw [List.getElem?_map, List.getElem?_eq_getElem (by omega), List.getD_eq_getElem?_getD, List.getElem?_eq_getElem (by omega)]
      rfl)
    rwa [Int.toNat_of_nonneg j0] at e
  rintro _ ⟨v, rfl⟩
  dsimp only
  refine if_any (fun Q' k => ?_) fun b => ?_
  · refine ⟨_, rfl, _, rfl, p, _, _, _, rfl, rfl, SqL.of hp2, at0, c, _, rfl, .inl (SqL.of hc2), _, _, rfl, rfl, _, rfl, ?_⟩
    by_cases hb : t < (((cs.map V.int).length : Nat) : Int)
    · rw [decide_eq_true hb]
      exact iteT ⟨_, rfl, _, rfl, _, _, rfl, rfl, ⟨by decide, by decide, by decide⟩, _, _, rfl, rfl, _, rfl, k _⟩
    · rw [decide_eq_false hb]
      exact iteF (k _)
  have np : t * 36107 ≤ 100000 * 36107 := by omega
  cases b with
  | true =>
    refine iteT ⟨_, rfl, _, rfl, _, _, rfl, rfl, ⟨by decide, by decide, by decide⟩, _, _, rfl, rfl, _, _, rfl, rfl, .inl ⟨by decide, by decide⟩, ?_⟩
    refine ⟨_, rfl, _, _, rfl, rfl, .inr ⟨_, rfl, _, _, rfl, rfl, ?_⟩⟩
    refine ⟨_, rfl, .inl ⟨_, rfl, _, rfl, _, _, rfl, rfl, dv _, _, rfl, p, _, _, 2, rfl, rfl, hp2, rfl, ?_⟩⟩
    refine ⟨_, rfl, .inl ⟨_, rfl, _, rfl, _, _, rfl, rfl, m0, ?_⟩⟩
    exact fin _ _ (t + 1) _ (k2.trans Keep.upd) upd_same (by omega) (by omega)
  | false =>
    have a0 := Int.emod_nonneg v (show (2147483579 : Int) ≠ 0 by decide)
    have a1 := Int.emod_lt_of_pos v (show (0 : Int) < 2147483579 by decide)
    refine iteF ⟨_, rfl, .inl ⟨_, rfl, _, _, rfl, rfl, (show (0 : Int) < 2147483579 by decide), _, rfl, _, _, rfl, rfl, .inl ⟨by decide, by decide⟩, _, _, rfl, rfl, _, _, rfl, rfl, ?_⟩⟩
    have l1 : (v % 2147483579 + 27509 * t + 2203).natAbs < 2 ^ 64 := by omega
    refine ⟨_, _, rfl, rfl, ⟨by decide, by decide, log2_of l1 (by decide) (by decide)⟩, .inl ⟨_, rfl, _, _, rfl, rfl, (show (0 : Int) < 2147483647 by decide), ?_⟩⟩
    generalize (v % 2147483579 + 27509 * t + 2203) ^ Int.toNat 5 = z
    have b0 := Int.emod_nonneg z (show (2147483647 : Int) ≠ 0 by decide)
    have b1 := Int.emod_lt_of_pos z (show (0 : Int) < 2147483647 by decide)
    refine ⟨_, rfl, _, rfl, _, _, rfl, rfl, .inl ⟨by decide, by decide⟩, _, _, rfl, rfl, _, _, rfl, rfl, .inl ⟨by omega, by omega⟩, ?_⟩
    refine ⟨_, rfl, _, _, rfl, rfl, .inl ⟨by decide, by decide⟩, _, rfl, _, _, rfl, rfl, .inr ⟨by omega, by omega⟩, _, _, rfl, rfl, _, _, rfl, rfl, ?_⟩
    have e1 : 0 ≤ z % 2147483647 * (2 * t + 1013) ∧ z % 2147483647 * (2 * t + 1013) ≤ 2147483647 * 201013 := ⟨Int.mul_nonneg b0 (by omega), Int.mul_le_mul (by omega) (by omega) (by omega) (by decide)⟩
    have e2 : 0 ≤ 36107 * t * t ∧ 36107 * t * t ≤ 36107 * 100000 * 100000 := ⟨Int.mul_nonneg (by omega) t0, Int.mul_le_mul (by omega) (by omega) (by omega) (by decide)⟩
    have l2 : (z % 2147483647 * (2 * t + 1013) + 36107 * t * t + 27509).natAbs < 2 ^ 100 := by omega
    refine ⟨_, _, rfl, rfl, ⟨by decide, by decide, log2_of l2 (by decide) (by decide)⟩, .inl ⟨_, rfl, _, _, rfl, rfl, (show (0 : Int) < 2147483543 by decide), ?_⟩⟩
    refine ⟨_, rfl, _, _, rfl, rfl, ⟨by decide, by decide⟩, .inl ⟨_, rfl, _, rfl, _, _, rfl, rfl, m0, ?_⟩⟩
    exact fin _ _ (t + 1) _ k2 hp2 (by omega) (by omega)
end
end K5

/-! k44: numbers. -/
namespace K5
open PySem PySem.Spec PyProof.Rows L2 LamX K1 K18

theorem kV_len (ks : List Nat) : (kV ks).length = ks.length := List.length_map ..
theorem nd_len {l : List Nat} {m : Nat} (nd : l.Nodup) (h : ∀ x ∈ l, x < m) : l.length ≤ m := by
  have := List.Nodup.length_le_of_subset (l₂ := List.range m) nd fun x hx => List.mem_range.mpr (h x hx)
  rwa [List.length_range] at this
abbrev nI (ks : List Nat) : List Int := ks.map fun k : Nat => (k : Int)
theorem kV_eq (ks : List Nat) : kV ks = (nI ks).map V.int := by unfold kV nI; rw [List.map_map]; rfl
theorem asc_nd {ks : List Nat} (h : ks.Pairwise (· < ·)) : ks.Nodup := h.imp fun h => Nat.ne_of_lt h
theorem nI_nd {ks : List Nat} (h : ks.Nodup) : (nI ks).Nodup := by
  refine List.pairwise_map.mpr (h.imp fun {a b} z e => z (by omega))
/-- ints sorted, a permutation of ascending numbers: those -/
theorem sorted_is {js : List Int} {ks : List Nat} (p : js.Perm (nI ks)) (s : js.Pairwise (· ≤ ·)) (a : ks.Pairwise (· < ·)) : js = nI ks := by
  refine List.Perm.eq_of_pairwise (le := (· ≤ ·)) (fun a b _ _ x y => by omega) s ?_ p
  exact List.pairwise_map.mpr (a.imp fun h => by omega)
theorem nI_perm {ms ks : List Nat} (p : ms.Perm ks) : (nI ms).Perm (nI ks) := p.map _
section
variable {K : PySem.W.Frag} {CD CI CT : Addr} {H : Hp} {E : XK}
/-- good numbers, in any order -/
theorem handsW_good {b : Addr} {ms ks : List Nat} {m : Nat} {part : V} {k : List Int → Addr → Prop} (sq : SqA H b (kV ms)) (p : ms.Perm ks) (a : ks.Pairwise (· < ·)) (lt : ∀ x ∈ ks, x < m) (l : ks.length ≤ 1000) (go : k (nI ms) b) : HandsW K CD CI CT (m : Nat) (.ref b) part H E k := by
  have nd : ms.Nodup := p.symm.nodup (asc_nd a)
  have ltm : ∀ x ∈ ms, x < m := fun x hx => lt x (p.mem_iff.mp hx)
  have lm := p.length_eq
  refine .inr ⟨b, nI ms, rfl, by rw [← kV_eq]; exact sq, by rw [List.length_map]; omega, fun i n hn bad _ => ?_, fun _ i n dup => ?_, fun _ _ => go⟩
  · obtain ⟨x, hx, rfl⟩ := map_at hn
    exact absurd ⟨by omega, by have := ltm x (List.mem_of_getElem? hx); omega⟩ bad
  · obtain ⟨h1, h2, _⟩ := dup
    have z : ((nI ms).take (i + 1)).Nodup := (nI_nd nd).sublist (List.take_sublist _ _)
    rw [take_more h1] at z
    exact absurd rfl ((List.nodup_append.mp z).2.2 n h2 n (by simp))
end
end K5

/-! k44: some, order. -/
namespace K5
open PySem PySem.Spec PyProof.Rows L2 LamX K1 K18

abbrev HasBlow (P : Program) (w : World) (K : PySem.W.Frag) (mg : Str → Option Value) (base : Heap) : Prop := Has P w K mg base CX0 1 "_law_blow" ["_law_vane_here", "_law_many"] spDraw
def spSome : Sp := fun vs H Q _ => ∃ (p c b : Addr) (xs : List V) (n : Nat), vs = [.ref p, .ref b] ∧ SqA H b xs ∧ b ≠ p ∧ 0 < xs.length ∧ xs.length < 1000 ∧ Pen H p c n ∧ n < 100000 ∧ ∀ (i : Nat) (x : V) (H' : Hp), xs[i]? = some x → Keep p H H' → Pen H' p c (n + 1) → Q x H'
abbrev HasSome (P : Program) (w : World) (K : PySem.W.Frag) (mg : Str → Option Value) (base : Heap) : Prop := Has P w K mg base CX0 2 "_law_some" ["_law_vane_here", "_law_some_here"] spSome
theorem kV_app (a b : List Nat) : kV (a ++ b) = kV a ++ kV b := List.map_append
theorem rg0 (m : Nat) : rgV 0 ((m : Nat) : Int) = kV (List.range m) := by
  unfold rgV kV
  simp
theorem erase_map {α β : Type} (f : α → β) : ∀ (l : List α) (j : Nat), (l.map f).eraseIdx j = (l.eraseIdx j).map f
  | [], _ => rfl
  | _ :: _, 0 => rfl
  | a :: l, j + 1 => by
    show f a :: (l.map f).eraseIdx j = f a :: (l.eraseIdx j).map f
    rw [erase_map f l j]
theorem erase_perm {α : Type} : ∀ {l : List α} {j : Nat} {x : α}, l[j]? = some x → (x :: l.eraseIdx j).Perm l
  | [], _, _, h => by simp at h
  | a :: l, 0, x, h => by
    obtain rfl : a = x := by simpa using h
    exact List.Perm.refl _
  | a :: l, j + 1, x, h => by
    have z := erase_perm (l := l) (j := j) (x := x) (by simpa using h)
    exact (List.Perm.swap a x _).trans (z.cons a)
theorem seq_ix {j m : Nat} (h : j < m) : seqIndex? (j : Int) m = some j := by
  have e : (if (j : Int) < 0 then (j : Int) + m else j) = j := if_neg (by omega)
  show (if 0 ≤ (if (j : Int) < 0 then (j : Int) + m else j) && (if (j : Int) < 0 then (j : Int) + m else j) < m then some (if (j : Int) < 0 then (j : Int) + m else j).toNat else none) = some j
  rw [e]
  have d1 : decide ((0 : Int) ≤ (j : Int)) = true := decide_eq_true (by omega)
  have d2 : decide ((j : Int) < (m : Int)) = true := decide_eq_true (by omega)
  rw [d1, d2]
  simp
/-- the numbers below m in a drawn order, a new list -/
def spOrder : Sp := fun vs H Q _ => ∃ (p c : Addr) (m n : Nat), vs = [.ref p, .int m] ∧ m ≤ 50 ∧ Pen H p c n ∧ n + 60 < 100000 ∧
  ∀ (d : Addr) (ms : List Nat) (H' : Hp), ms.Perm (List.range m) → H' d = some (.lst (kV ms)) → H d = none → Keep p H H' → Pen H' p c (n + m) → Q (.ref d) H'
section
variable {P : Program} {w : World} {K : PySem.W.Frag} {mg : Str → Option Value} {base : Heap} {f : Addr} {fd : FuncData}
theorem scSome : FnScope ["_law_vane_here", "_law_some_here"] ["_law_vane_here", "_law_some_here"] (defScope sSome) := ⟨rfl, rfl, rfl, by decide +kernel, rfl, by decide +kernel, by decide +kernel⟩
theorem ok_some (G : Glob mg) (HT : HasBlow P w K mg base) (F : DefAt K "_law_some" "_law_some" sSome f fd) : FnOk P w K mg base CX0 2 f fd ["_law_vane_here", "_law_some_here"] spSome := by
  obtain ⟨ft, fdt, mT, kT, bT, GT⟩ := HT.h
  refine okN F scSome (fun vs H Q E ⟨p, c, b, xs, n, e, _⟩ => by rw [e]; rfl) (fun cdv A outer s H vs Q E hr ⟨p, c, b, xs, n, e, sq, bp, l0, l1, sk, hn, q⟩ => ?_)
  subst e
  refine ⟨_, pss_one (ps_ret (pe_ix ix_seq (pv 1) (pe_call GT hr rfl mT kT bT .nil pass0 (pa_cons (pv 0) (pa_cons (pe_callB (r := rLenA K) (call_lenA rfl) (by rfl) G.len PySem.boot_len (pa_cons (pv 1) pa_nil)) pa_nil))) (fun _ _ => rfl))), ?_⟩
  refine ⟨_, rfl, _, rfl, _, rfl, b, xs, rfl, sq.imp SqL.of SqT.of, p, c, _, n, rfl, sk, hn, by omega, by omega, fun r H' r0 r1 k s' => ?_⟩
  obtain ⟨j, rfl⟩ := Int.eq_ofNat_of_zero_le r0
  have hj : j < xs.length := by omega
  have z := q j _ H' (List.getElem?_eq_getElem hj) k s'
  rcases sq with sq | sq
  · exact .inl ⟨b, xs, j, _, rfl, rfl, SqL.of (k b _ bp sq), atI_nat (List.getElem?_eq_getElem hj), z⟩
  · exact .inr (.inl ⟨b, xs, j, _, rfl, rfl, SqT.of (k b _ bp sq), atI_nat (List.getElem?_eq_getElem hj), z⟩)
abbrev nOrder : List Str := ["_law_vane_here", "_law_many", "_law_left", "_law_found", "_law_turn"]
theorem scOrder : FnScope nOrder ["_law_vane_here", "_law_many"] (defScope sOrder) := ⟨rfl, rfl, rfl, by decide +kernel, rfl, by decide +kernel, by decide +kernel⟩
theorem ok_order (G : Glob mg) (HT : HasBlow P w K mg base) (F : DefAt K "_law_order" "_law_order" sOrder f fd) : FnOk P w K mg base CX0 2 f fd ["_law_vane_here", "_law_many"] spOrder := by
  obtain ⟨ft, fdt, mT, kT, bT, GT⟩ := HT.h
  refine okN F scOrder (fun vs H Q E ⟨p, c, m, n, e, _⟩ => by rw [e]; rfl) (fun cdv A outer s H vs Q E hr ⟨p, c, m, n, e, l50, pn, hn, q⟩ => ?_)
  subst e
  refine ⟨_, pss_cons (ps_par (i := 2) (j := 3) (by rfl) scOrder.nd rfl rfl (by decide) rfl rfl (pa_cons (pe_listRg rfl (by rfl) G.lst (prg_1 (by rfl) G.range (pv 1))) (pa_cons (pe_lst pa_nil) pa_nil)) (by rfl))
    (pss_cons (ps_for PassesOwn.never rfl (pi_range1 (by rfl) G.range (pa_cons (pv 1) pa_nil)) (pg_name (i := 4) scOrder.nd rfl (Or.inl rfl))
      (pss_one (ps_expr (pe_bm PySem.F.plainAttrs_list PySem.F.slot_list_append PySem.F.type_list_append mt_append (pv 3) (pa_cons (pe_bm PySem.F.plainAttrs_list PySem.F.slot_list_pop PySem.F.type_list_pop mt_popAt (pv 2) (pa_cons (pe_call GT hr rfl mT kT bT .nil pass0 (pa_cons (pv 0) (pa_cons (pe_callB (r := rLenA K) (call_lenA rfl) (by rfl) G.len PySem.boot_len (pa_cons (pv 2) pa_nil)) pa_nil))) pa_nil)) pa_nil)))))
    (pss_one (ps_ret (pv 3)))), ?_⟩
  have sz : sizeLine = 16777216 := sizeLine_eq
  refine ⟨_, rfl, (m : Int), rfl, RgOk.of_le (by decide) (by omega) (by decide) (by omega), fun dl nl => ⟨(by show 0 ≤ sizeLine; omega), fun df nf => ⟨_, _, rfl, ?_⟩⟩⟩
  have s1 := upd_new (o := .lst (rgV 0 ((m : Nat) : Int))) nl
  have h1 : upd H dl (.lst (rgV 0 ((m : Nat) : Int))) dl = some (.lst (kV (List.range m))) := by rw [upd_same, rg0]
  generalize upd H dl (.lst (rgV 0 ((m : Nat) : Int))) = H1 at s1 h1 nf ⊢
  have s2 := upd_new (o := .lst []) nf
  have h2 : upd H1 df (.lst []) df = some (.lst []) := upd_same
  generalize upd H1 df (.lst []) = H2 at s2 h2 ⊢
  have s12 := s1.trans s2
  have nlf : dl ≠ df := ne_of_none h1 nf
  have nfH : H df = none := s1.free nf
  obtain ⟨lp, lc⟩ := pn.ne nl
  obtain ⟨fp, fc⟩ := pn.ne nfH
  refine ⟨_, rfl, (m : Int), rfl, by omega, by omega, ?_⟩
  refine for_range (lo := 0) (n := ((m : Nat) : Int).toNat) (fun i σ H3 => ∃ (z4 : Option V) (ls fs : List Nat), σ = [some (.ref p), some (.int m), some (.ref dl), some (.ref df), z4] ∧ H3 dl = some (.lst (kV ls)) ∧ H3 df = some (.lst (kV fs)) ∧ (fs ++ ls).Perm (List.range m) ∧ fs.length = i ∧ Keep p H H3 ∧ Pen H3 p c (n + i))
    ⟨none, List.range m, [], rfl, s2 _ _ h1, h2, List.Perm.refl _, rfl, theKeep s12, pn.same s12⟩ ?_ ?_
  · rintro i σ H3 hi ⟨z4, ls, fs, rfl, hl, hf, pm, lf, k3, pn3⟩
    have hi2 : i < m := by omega
    have tot := pm.length_eq
    rw [List.length_append, List.length_range] at tot
    refine ⟨_, rfl, .inl ⟨rfl, _, SqL.of hf⟩, _, rfl, .inl ⟨rfl, _, SqL.of hl⟩, _, rfl, _, rfl, dl, _, rfl, .inl (SqL.of hl), p, c, _, _, rfl, pn3, by omega, by rw [kV_len]; omega, by rw [kV_len]; omega, fun r H4 r0 r1 k4 pn4 => ?_⟩
    rw [kV_len] at r1
    obtain ⟨j, rfl⟩ := Int.eq_ofNat_of_zero_le r0
    have hj : j < ls.length := by omega
    have hl4 := k4 _ _ (Ne.symm lp) hl
    have hf4 := k4 _ _ (Ne.symm fp) hf
    have ej : ls[j]? = some ls[j] := List.getElem?_eq_getElem hj
    refine ⟨dl, kV ls, (j : Int), j, .int (ls[j] : Nat), rfl, rfl, hl4, by omega, by omega, ?_, by unfold kV; rw [List.getElem?_map, ej]; rfl, ?_⟩
    · exact seq_ix (by rw [kV_len]; exact hj)
    have hf5 : upd H4 dl (.lst ((kV ls).eraseIdx j)) df = some (.lst (kV fs)) := by rw [upd_ne (Ne.symm nlf)]; exact hf4
    refine ⟨df, kV fs, _, rfl, rfl, hf5, by rw [kV_len]; omega, _, ls.eraseIdx j, fs ++ [ls[j]], rfl, ?_, by rw [upd_same, kV_app]; rfl, ?_, by rw [List.length_append, lf]; rfl, ?_, ?_⟩
    · rw [upd_ne nlf, upd_same]
      congr 2
      exact erase_map _ ls j
    · rw [List.append_assoc]
      refine List.Perm.trans (List.Perm.append_left fs ?_) pm
      exact erase_perm ej
    · intro o u no e
      rw [upd_ne (ne_of_none e nfH), upd_ne (ne_of_none e nl)]
      exact k4 _ _ no (k3 _ _ no e)
    · exact ((pn4.upd lp lc).upd fp fc).mono (by omega)
  · rintro σ H3 ⟨z4, ls, fs, rfl, hl, hf, pm, lf, k3, pn3⟩
    have tot := pm.length_eq
    rw [List.length_append, List.length_range] at tot
    have l0 : ls = [] := List.length_eq_zero_iff.mp (by omega)
    subst l0
    rw [List.append_nil] at pm
    exact ⟨_, rfl, q df fs H3 pm hf nfH k3 (pn3.mono (by omega))⟩
end
end K5

/-! k44: [x[i] for x in g(..)], g a generator's def. -/
namespace K4
open PySem PySem.Spec PyProof.Rows L2 GenW

/-- the item at pl of what is handed out, a tuple -/
def FZi (pl : Nat) : ItZ := fun H x z => ∃ p xs, x = .ref p ∧ H p = some (.tup xs) ∧ xs[pl]? = some z
/-- a call of a generator's def, not begun -/
structure PGz (X : Cx) (k : Nat) (e : Expr) (tg : TGen) (FZ : ItZ) : Prop where
  run : ∀ (pins : List (Addr × Obj)) (s : Shared) (σ : L2.St) (H : Hp) (cont : List V → Hp → Prop), Inv X pins σ H s → tg σ H cont → wpAny (model X.prog X.w) X.A (eval e X.env)
    (fun u s' => ∃ H1 sc, Inv X pins σ H1 sc ∧ MadeZ X.prog X.w k X.stack H1 sc FZ cont u s') X.xe s
section
variable {X : Cx} {k : Nat} {f : Addr} {fd : FuncData} {ps : List Str} {sp : SpG} {FZ : ItZ} {dvs : List V} {ds : List Value} {x : Str} {p pos : Pos}
/-- f(e, ..) -/
theorem pgz_call {e : Expr} {es : List Expr} {t : TA} {E : XK} (F : FnZ X.prog X.w X.K X.mg X.base k f fd ps FZ sp) (hr : Room k X.A) (hg : Gl X x) (hm : X.mg x = some (.ref f)) (hk : PySem.W.keepIn X.K (.ref f) = true) (hb : Binds X.K fd ps ds) (hd : Vals dvs ds)
    (ha : PA X (e :: es) t) (hdb : (x == ("__debug__" : Str)) = false := by decide) (he : starEach (e :: es) X.env = (false, eval e X.env) :: starEach es X.env := by rfl) (hpl : (backTo pos (starEach es X.env)).any (·.1) = false := by rfl) :
    PGz X k (.Call (.Name x p) (e :: es) [] pos) (tCallG sp dvs E t) FZ := ⟨fun pins s σ H cont I h => by
  refine wpAny_Call_Name_kw (ld_glob I hg hm ?_ hdb)
  refine PySem.W.callWith_K (h₀ := X.base) I.ok.mod.kin hk (thn (ha.run pos pins s σ H _ I h) fun us s1 ⟨vs, H1, I1, r, q⟩ => ⟨I1.kIn, ?_⟩) he hpl
  have r2 : Vals (vs ++ dvs) (us ++ ds) := r.append hd
  have hl2 : (us ++ ds).length = ps.length := by rw [← r2.length]; exact F.len _ _ _ _ q
  refine wpAny_call (codeAny_mono (F.run X.A X.stack s1 H1 ⟨us, []⟩ (us ++ ds) (vs ++ dvs) cont E hr I1.env0 (hb s1 us I1.kIn hl2) r2 q) fun r s' hq => ?_)
  cases r with
  | error e => exact hq.elim
  | ok fl =>
    cases fl with
    | ret u => exact ⟨H1, s1, I1, hq⟩
    | next => exact hq.elim
    | brk => exact hq.elim
    | cont => exact hq.elim⟩
end
/-- objects beyond the first ones change -/
theorem Un.aside {fs : List Addr} {H H' : Hp} {h h1 h2 : Heap} (u : Un fs [] H H' h h1) (k : ∀ b o, h.get? b = some o → h2.get? b = h1.get? b) : Un fs [] H H' h h2 :=
  ⟨fun b o e n f x => (k b o e).trans (u.keep b o e n f x), fun b o e n f x => let ⟨sl, q⟩ := u.slot b o e n f x; ⟨sl, (k b o e).trans q⟩, u.free, fun b o e x => let ⟨o', q⟩ := u.there b o e x; ⟨o', (k b o e).trans q⟩, u.tups, u.frzs, u.tbls⟩
theorem HOk.aside {P : Program} {w : World} {H : Hp} {h h2 : Heap} {L : List Addr} (u : HOk P w H h) (n : ∀ b ∈ L, H b = none) (k : ∀ b, b ∉ L → h2.get? b = h.get? b) : HOk P w H h2 := fun b o e =>
  (u b o e).stay (fun c v hc q => (k c fun m => by
    have z := n c m
    rcases hc with rfl | hc
    · rw [z] at e; cases e
    · rw [z] at hc; cases hc).trans q) (fun _ q => q) fun _ _ q => q
theorem wipe_at {σ : L2.St} {j : Nat} : ∀ {vs : List Nat}, j ∉ vs → (wipe σ vs)[j]? = σ[j]?
  | [], _ => rfl
  | v :: vs, h => by
    unfold wipe
    rw [List.getElem?_set_ne (fun e => h (by rw [e]; exact List.mem_cons_self))]
    exact wipe_at fun m => h (List.mem_cons_of_mem _ m)
theorem noPush : ∀ {names : List (Str × NameKind)} {h : Heap}, (∀ y ∈ names, y.2 ≠ .cell) → pushCells h names = h
  | [], _, _ => rfl
  | (x, k) :: r, h, n => by
    unfold pushCells
    rw [if_neg (by
      intro z
      exact n (x, k) List.mem_cons_self (by simpa using z))]
    exact noPush fun y hy => n y (List.mem_cons_of_mem _ hy)
def tLcZ (j : Nat) (tg : Nat → TGen) : TE := fun σ H Q => ∃ pl : Nat, σ[j]? = some (some (.int pl)) ∧ pl < 1000 ∧ tg pl σ H fun zs H2 => ∀ D, H2 D = none → Q (.ref D) (upd H2 D (.lst zs))
section
variable {X : Cx} {k : Nat}
theorem pe_lcZ {y zn : Str} {py p1 p2 p3 pos : Pos} {iter : Expr} {scope : Scope} {own : List (Str × Nat)} {j : Nat} {tg : Nat → TGen} (hc : X.calm = true) (hr : Room (k + 1) X.A) (hN : X.N.Nodup) (h : ∀ pl, PGz X k iter (tg pl) (FZi pl)) (ok : BlkOk X.N X.env.scope scope own)
    (nc : ∀ y ∈ scope.names, y.2 ≠ .cell) (hyl : ∀ C cl, (compEnvC scope cl C X.env).scope.names.lookup y = some .local) (hz : X.N[j]? = some zn) (hzv : X.env.scope.names.lookup zn = some .cell) (hzf : scope.names.lookup zn = some .free)
    (hzk : ∀ C cl, (compEnvC scope cl C X.env).kindOf zn = some .cell ∨ (compEnvC scope cl C X.env).kindOf zn = some .free) (hyd : (y == ("__debug__" : Str)) = false) (hzd : (zn == ("__debug__" : Str)) = false) (hzc : (zn == ("__classdict__" : Str)) = false)
    (hs : ∀ x, foldedSetIterable iter X.env x = pure x := by intro _; rfl) : PE X (.ListComp (.Subscript (.Name y p1) (.Name zn p2) p3) [⟨.Name y py, iter, [], 0⟩] scope pos) (tLcZ j tg) := by
  refine ⟨fun pins s σ H Q I ⟨pl, hσ, hpl, hq⟩ => ?_⟩
  have hfree : ∀ y ∈ scope.names, y.2 = .free → ∃ c, X.env.cells.lookup y.1 = some c := fun y hy e => by
    rcases ok.free y hy e with k | k
    · exact I.ok.has _ (.inl k)
    · exact I.ok.has _ (.inr k)
  rw [eval_ListComp]
  refine wpAny_comprehension_free (use := none) rfl hs (closure_ok hfree) ok.kind (fun y hy e => by rw [ok.uniq y hy, e]) (thn ((h pl).run pins s σ H _ I hq) fun u s1 ⟨H1, sc, Ic, hm⟩ => ?_)
  obtain ⟨a, g, c, rfl, ha1, ha2, hg, hgs, hos, hb, hl, hkp, wake⟩ := hm
  refine wpAny_pyIter_gen hg ?_
  refine wpAny_newObj_type (newEnv_comp ?_) (by show 0 ≤ sizeLine; decide)
  generalize hLD : ({ cls := .type "list", data := .seq ([] : List Value).toArray } : Obj) = LD
  generalize hFD : ({ cls := .type "dict", data := .dict #[] } : Obj) = FD
  show codeAny _ _ (.compStart (.ListComp (.Subscript (.Name y p1) (.Name zn p2) p3) [⟨.Name y py, iter, [], 0⟩] scope pos) 0 (.ref a) (.ref s1.heap.objs.size) (compEnvC scope (cellsFrom ((s1.heap.push LD).objs.size + 1) scope.names (cloFrom X.env.cells scope.names [])) (s1.heap.push LD).objs.size X.env))
    (compPost (model X.prog X.w) X.A X.xe none (EP X pins σ Q) (.ref s1.heap.objs.size) (s1.heap.push LD).objs.size) { s1 with heap := pushCells ((s1.heap.push LD).push FD) scope.names }
  rw [noCells nc, noPush nc]
  have hsz : sc.heap.objs.size ≤ s1.heap.objs.size := Nat.le_trans ha1 (Nat.le_of_lt ha2)
  have hCz : (s1.heap.push LD).objs.size = s1.heap.objs.size + 1 := Heap.size_push ..
  have k4 : ∀ b o, s1.heap.get? b = some o → ((s1.heap.push LD).push FD).get? b = some o := fun b o e => Heap.get?_push_of_some _ (Heap.get?_push_of_some _ e)
  have eD : ((s1.heap.push LD).push FD).get? s1.heap.objs.size = some (lstObj #[] 0) := Heap.get?_push_of_some _ (by rw [← hLD]; exact Heap.get?_push_size _ rfl)
  have eC : ((s1.heap.push LD).push FD).get? (s1.heap.push LD).objs.size = some FD := by rw [← hFD]; exact Heap.get?_push_size _ rfl
  have nFD : NsO FD := by
    rw [← hFD]
    exact ⟨#[], 0, rfl, fun e he => by simp at he⟩
  -- the place's cell
  obtain ⟨mz, _, lkz⟩ := Ic.loc
  obtain ⟨uz, ruz, lookz⟩ := lkz j zn _ hz hσ (.inr (.inl hzv))
  obtain ⟨tz, rfl⟩ : ∃ t, uz = Value.int (pl : Int) t := ruz
  obtain ⟨cz, ecz, cellz⟩ : ∃ cz, X.env.cells.lookup zn = some cz ∧ sc.heap.IsCell cz (some (.int pl tz)) := by
    rcases lookz with ⟨k', _⟩ | ⟨_, q⟩
    · have k2 : X.env.scope.names.lookup zn = some .local := k'
      rw [hzv] at k2
      cases k2
    · exact q
  have czlt : cz < sc.heap.objs.size := cellz.lt
  have czce : (cloFrom X.env.cells scope.names []).lookup zn = some cz := by
    obtain ⟨c', e'⟩ := mem_lookup (cloFrom_has (cells := X.env.cells) (acc := []) (PySem.mem_of_lookup hzf))
    rw [e']
    rcases cloFrom_mem (PySem.mem_of_lookup e') with z | ⟨_, z⟩
    · cases z
    · rw [z, ecz]
      rfl
  have cellAt : ∀ {H' : Hp} {h' : Heap}, Un (frs X.stack) [] H1 H' sc.heap h' → h'.IsCell cz (some (.int pl tz)) := fun {H' h'} un => by
    obtain ⟨o, e, d⟩ := cellz
    obtain ⟨sl, q⟩ := un.any e (Ic.freeC zn cz ecz) (fun z => nomatch z)
    exact ⟨_, q, d⟩
  generalize hce : compEnvC scope (cloFrom X.env.cells scope.names []) (s1.heap.push LD).objs.size X.env = ce
  have ceL : ce.locals = (s1.heap.push LD).objs.size := by rw [← hce]; rfl
  have ceK : ce.scope.kind = .function := by rw [← hce]; exact ok.kind
  have ceY : ce.kindOf y = some .local := by rw [← hce]; exact hyl _ _
  have ceZ : ce.kindOf zn = some .cell ∨ ce.kindOf zn = some .free := by rw [← hce]; exact hzk _ _
  have ceC : ce.cells.lookup zn = some cz := by rw [← hce]; exact czce
  have yz : y ≠ zn := fun e => by
    rw [← e] at ceZ
    rw [ceY] at ceZ
    rcases ceZ with z | z <;> cases z
  clear hyl hzk
  obtain ⟨D, hD⟩ : ∃ D, D = s1.heap.objs.size := ⟨_, rfl⟩
  obtain ⟨C, hC⟩ : ∃ C, C = (s1.heap.push LD).objs.size := ⟨_, rfl⟩
  rw [← hC] at ceL eC ⊢
  rw [← hD] at eD ⊢
  have DC : D ≠ C := by rw [hD, hC, hCz]; exact Nat.ne_of_lt (Nat.lt_succ_self _)
  have scD : sc.heap.objs.size ≤ D := by rw [hD]; exact hsz
  have scC : sc.heap.objs.size ≤ C := by rw [hC, hCz]; omega
  have nD : ∀ {b : Addr} {o : Obj}, sc.heap.get? b = some o → b ≠ D ∧ b ≠ C := fun {b o} e => ⟨Nat.ne_of_lt (Nat.lt_of_lt_of_le (Heap.lt_size e) scD), Nat.ne_of_lt (Nat.lt_of_lt_of_le (Heap.lt_size e) scC)⟩
  -- at the def's level
  have lim : ∀ {kp : List (Addr × Obj)} {H' : Hp} {zs : List V} {s' : Shared}, Wake X.prog X.w X.stack H1 sc ⟨D, C, a, g⟩ kp H' zs s' → s'.heap.NoLimit := fun wk => (Ic.call' (ch := []) wk.os wk.un wk.hok wk.bare fun b z => nomatch z).nolimit
  have start : ({ s1 with heap := (s1.heap.push LD).push FD } : Shared).heap.NoLimit := hl.keeps k4
  have rk : Room k X.A.in1 := ⟨hr.hd, by have := hr.dp; show X.A.depth + 3 * k + 5 < _; omega, by have := hr.un; show X.A.units + 1 + 16 * k + 200 < _; omega⟩
  have hdep : X.A.depth < recursionLimit := by have := hr.dp; omega
  have seg0 := wake X.A.in1 D C (({ s1 with heap := (s1.heap.push LD).push FD } : Shared).setGen g .running) rk I.ok.frames (by rw [hD]; exact Nat.le_refl _) (by rw [hC, hCz]; exact Nat.le_succ _) DC (fun b o e => k4 b o e) ⟨0, eD⟩ ⟨FD, eC, nFD⟩ hos (allBare_setGen (s := { s1 with heap := (s1.heap.push LD).push FD }) hb rfl)
  have loop : codeAny (model X.prog X.w) X.A (.compLoop (.ListComp (.Subscript (.Name y p1) (.Name zn p2) p3) [⟨.Name y py, iter, [], 0⟩] scope pos) 0 (.ref a) (.ref D) ce) (compPost (model X.prog X.w) X.A X.xe none (EP X pins σ Q) (.ref D) C) { s1 with heap := (s1.heap.push LD).push FD } := by
    refine compLoop_any (fun n s' => ∃ gs, s'.heap.IsGen a g ∧ s'.heap.NoLimit ∧ s'.gens[g]? = some gs ∧ gs.Goes (model X.prog X.w) X.A.in1 (RZ X.prog X.w X.stack H1 sc ⟨D, C, a, g⟩ fun zs H2 => ∀ D, H2 D = none → Q (.ref D) (upd H2 D (.lst zs))) (YZ X.prog X.w X.stack H1 sc ⟨D, C, a, g⟩ (FZi pl)) n (.send .none) (s'.setGen g .running)) ?_ sizeLine ⟨_, hg.keeps k4, start, hgs, rfl, seg0⟩
    rintro n s5 ⟨gs, ig5, lim5, hgs5, hgo⟩
    refine wpAny_gsz (n := g + 1) (Array.getElem?_eq_some_iff.mp hgs5).1 ?_
    refine next_genG (F := fun _ _ s => ∃ (H : Hp) (zs : List V), zs.length ≤ sizeLine ∧ Wake X.prog X.w X.stack H1 sc ⟨D, C, a, g⟩ [] H zs s ∧ Aside X.stack ⟨D, C, a, g⟩ [] H ∧ ∀ D, H D = none → Q (.ref D) (upd H D (.lst zs))) (Er := fun _ _ => False) hr.hd lim5 hdep ig5 hgs5 hgo (fun v s6 gs' hbare hv => ?_) (fun s6 hp h' hk => ?_) fun e s6 he => he.elim
    · intro hsz6
      obtain ⟨zs, x, H', kp, hlen, rv, wk, as, isg, ⟨z, hfz⟩, back⟩ := hv
      obtain ⟨p, xs, rfl, hp, ez⟩ := id hfz
      obtain rfl : v = Value.ref p := rv
      obtain ⟨_, its, ri, tup⟩ := wk.hok p _ hp
      obtain ⟨u, eu, ru⟩ := ri.get ez
      obtain ⟨acc, c0, eD6, racc⟩ := wk.lst
      obtain ⟨oc, eC6, noc⟩ := wk.fr
      obtain ⟨m6, ns6⟩ := noc.ns eC6
      have pC : p ≠ C := fun e => by
        have q := as.C
        rw [show (⟨D, C, a, g⟩ : Csm).C = p from e.symm, hp] at q
        cases q
      have pD : p ≠ D := fun e => by
        have q := as.S
        rw [show (⟨D, C, a, g⟩ : Csm).S = p from e.symm, hp] at q
        cases q
      have g6 : g < s6.gens.size := by
        have q : (s6.setGen g gs').gens.size = s6.gens.size := setGen_size _ _ _
        have q2 : g + 1 ≤ (s6.setGen g gs').gens.size := hsz6
        omega
      have accz : acc.size = zs.length := by
        have q := racc.length
        simp at q
        omega
      show wpAny _ _ (pure () : Sem Unit) _ _ _
      refine wpAny_pure ?_
      refine wpAny_assign_Name (wpAny_storeName_local ceY (by rw [ceL]; exact ns6) (fun h7 ns7 sb7 => ?_) (by rw [ceK]; rfl))
      rw [ceL] at ns7 sb7
      have cell7 : h7.IsCell cz (some (.int pl tz)) := (cellAt wk.un).sameBut sb7 (Nat.ne_of_lt (Nat.lt_of_lt_of_le czlt scC))
      have tup7 : IsTup h7 p its.toArray := by
        obtain ⟨o, e, r⟩ := tup
        exact ⟨o, (sb7.2 p pC).trans e, r⟩
      have eD7 : h7.get? D = some (lstObj acc c0) := (sb7.2 D DC).trans eD6
      refine wpAny_tests_nil ?_
      rw [if_pos rfl]
      have pll : pl < its.length := (List.getElem?_eq_some_iff.mp eu).1
      have item : ∀ {s8 : Shared} {Q' : Value → Shared → Prop} {E' : Value → Shared → Prop} (A' : Around), s8.heap = h7 → Q' u s8 → wpAny (model X.prog X.w) A' (subscriptTail (.Name y p1) (.Name zn p2) (.ref p) (.int pl tz)) Q' E' s8 := fun {s8 Q' E'} A' e8 q => by
        refine item_tuple (j := pl) (x := u) (items := its.toArray) (by rw [e8]; exact tup7) (by omega) (by omega) ?_ (by simpa using eu) q
        rw [List.size_toArray]
        exact K5.seq_ix pll
      refine Subscript_ (wpAny_Name (wpAny_loadName_local (v := .ref p) ceK ceY (by rw [ceL]; exact ns7) (by simp) ?_) hyd)
      have fin : ∀ {s8 : Shared}, s8 = { s6.setGen g gs' with heap := h7, toks := (s6.setGen g gs').toks + 1 } → wpAny (model X.prog X.w) X.A (call (.builtin "list.append") [.ref D, u]) (fun _ s' => ∃ m, m < n ∧ ∃ gs, s'.heap.IsGen a g ∧ s'.heap.NoLimit ∧ s'.gens[g]? = some gs ∧
          gs.Goes (model X.prog X.w) X.A.in1 (RZ X.prog X.w X.stack H1 sc ⟨D, C, a, g⟩ fun zs H2 => ∀ D, H2 D = none → Q (.ref D) (upd H2 D (.lst zs))) (YZ X.prog X.w X.stack H1 sc ⟨D, C, a, g⟩ (FZi pl)) m (.send .none) (s'.setGen g .running)) (fun _ _ => False) s8 := fun {s8} e8 => by
        subst e8
        refine append_at (its := acc) (n := c0) eD7 (fun h8 sb8 eD8 => ?_) (by omega)
        have same : ∀ b, b ≠ C → b ≠ D → h8.get? b = s6.heap.get? b := fun b q1 q2 => (sb8.2 b q2).trans (sb7.2 b q1)
        have wk8 : ∀ {G : Array GenState}, AllBare G → Wake X.prog X.w X.stack H1 sc ⟨D, C, a, g⟩ kp H' (zs ++ [z]) { s6 with gens := G, heap := h8, toks := s6.toks + 1 } := fun {G} hG =>
          ⟨wk.os, hG, Un.aside wk.un fun b o e => same b (nD e).2 (nD e).1, HOk.aside (L := [C, D]) wk.hok (fun b hb => by
              simp only [List.mem_cons, List.not_mem_nil, or_false] at hb
              rcases hb with rfl | rfl
              · exact as.C
              · exact as.S) (fun b hb => by
              simp only [List.mem_cons, List.not_mem_nil, or_false, not_or] at hb
              exact same b hb.1 hb.2), fun p hp => (same p.1 (as.kp p hp).2.2.2.1 (as.kp p hp).2.2.1).trans (wk.pins p hp),
            ⟨acc.push u, c0 + 1, eD8, by rw [Array.toList_push]; exact racc.append (.cons ru .nil)⟩, by
              obtain ⟨o, e, no⟩ := NsO.of ns7
              exact ⟨o, (sb8.2 C (Ne.symm DC)).trans e, no⟩⟩
        have nx := back z _ hfz (wk8 (allBare_setGen (s := s6.setGen g gs') (g := g) (x := .running) (allBare_setGen wk.bare hbare) rfl))
        cases n with
        | zero => exact nx.elim
        | succ m =>
          refine ⟨m, Nat.lt_succ_self m, gs', isg _ (wk8 wk.bare).pins, lim (wk8 (allBare_setGen wk.bare hbare)), setGen_at g6, nx⟩
      rcases ceZ with kz | kz
      · refine wpAny_Name (wpAny_loadName_cell ceK kz ceC cell7 ?_) hzd
        exact item _ rfl (wpAny_mono (fin rfl) (fun _ _ q => q) fun _ _ q => q.elim)
      · refine wpAny_Name (wpAny_loadName_free ceK kz ceC cell7 ?_ hzc) hzd
        exact item _ rfl (wpAny_mono (fin rfl) (fun _ _ q => q) fun _ _ q => q.elim)
    · intro _
      obtain ⟨H', zs, lz, wk, as, q⟩ := hp
      obtain ⟨acc, c0, eD6, racc⟩ := wk.lst
      obtain ⟨oc, eC6, noc⟩ := wk.fr
      obtain ⟨m6, ns6⟩ := noc.ns (hk _ _ eC6)
      refine ⟨m6, ns6, fun h9 sb9 => ⟨.ref D, upd H' D (.lst zs), ?_, rfl, q D as.S⟩⟩
      have same : ∀ b, b ≠ C → ∀ o, s6.heap.get? b = some o → h9.get? b = some o := fun b q1 o e => (sb9.2 b q1).trans (hk b o e)
      have un : Un (frs X.stack) [] H1 H' sc.heap h9 := Un.aside (wk.un.trans (Un.kept hk)) fun b o e => sb9.2 b (nD e).2
      refine Ic.drained (s' := { s6.setGen g .finished with heap := h9 }) scD lz ((sb9.2 D DC).trans (hk _ _ eD6)) racc .nil wk.os (allBare_setGen wk.bare rfl) un ?_ as.S
      exact HOk.aside (L := [C]) (wk.hok.kept hk) (fun b hb => by
        obtain rfl := List.mem_singleton.mp hb
        exact as.C) fun b hb => sb9.2 b fun e => hb (List.mem_singleton.mpr e)
  exact codeAny_compStart_list loop (wpAny_pyIter_gen (hg.keeps k4) loop)
end
end K4

/-! k04: is_name of any value; check_stranger. -/
namespace K5
open PySem PySem.Spec PyProof.Rows L2 LamX K1 K18 K4

/-- ends that do not matter -/
def dD : Ends := { nx := fun _ _ => False, rt := fun _ _ => False }
def NotStr (K : PySem.W.Frag) (H : Hp) (v : V) : Prop := ∃ t, TyOf K H v t ∧ PySem.W.kitOne K t (.type "str") = some false
theorem NotStr.same {K : PySem.W.Frag} {H H' : Hp} {v : V} (s : Same H H') (h : NotStr K H v) : NotStr K H' v := let ⟨t, a, b⟩ := h; ⟨t, TyOf.keep s a, b⟩
theorem NotStr.of {K : PySem.W.Frag} {H : Hp} {v : V} {T : String} (ty : TyOf K H v (.type T)) (m : T ∈ ["NoneType", "int", "bool", "list"]) : NotStr K H v := by
  refine ⟨_, ty, ?_⟩
  simp only [List.mem_cons, List.not_mem_nil, or_false] at m
  rcases m with rfl | rfl | rfl | rfl <;> exact kit_ty (by decide +kernel)
/-- what is_name gives -/
def spNameA (K : PySem.W.Frag) : Sp := fun vs H Q _ => ∃ v, vs = [v] ∧ ((NotStr K H v ∧ ∀ H', Same H H' → Q (.bl false) H') ∨ ∃ x, v = .str x ∧ x.length ≤ 1000 ∧ ∀ b H', (Nm x → b = true) → Same H H' → Q (.bl b) H')
/-- no name of a stranger -/
def Strange (K : PySem.W.Frag) (H : Hp) (ns : List Str) (v : V) : Prop := NotStr K H v ∨ ∃ x, v = .str x ∧ x.length ≤ 1000 ∧ x ∉ ns
theorem Strange.same {K : PySem.W.Frag} {H H' : Hp} {ns : List Str} {v : V} (s : Same H H') (h : Strange K H ns v) : Strange K H' ns v := h.imp (fun z => z.same s) id
/-- a stranger's name, or none -/
def StrW (K : PySem.W.Frag) (CN : Addr) (ns : List Str) (v : V) (H : Hp) (E : XK) (k : Str → Prop) : Prop := (∃ n, v = .str n ∧ Nm n ∧ n ∈ ns ∧ k n) ∨ (Strange K H ns v ∧ ∀ d H', ToldF H H' d [("name", v)] → E (.ref CN) (some d) H')
def spStranger (K : PySem.W.Frag) (C CH CS CN : Addr) : Sp := fun vs H Q E => ∃ a v ns hs, vs = [.ref a, v] ∧ SwAt C CH CS H a ns hs ∧ StrW K CN ns v H E fun _ => ∀ H', Same H H' → Q .non H'
section
variable {P : Program} {w : World} {K : PySem.W.Frag} {mg : Str → Option Value} {base : Heap} {f C CH CS CN : Addr} {fd : FuncData}
theorem ok_nameA (G : Glob mg) (CO : Consts mg) (F : DefAt K "is_name" "is_name" sName f fd) : FnOk P w K mg base CX0 1 f fd ["value"] (spNameA K) := by
  obtain ⟨ud, gd, rd⟩ := CO.dig
  obtain ⟨ul, gl, rl⟩ := CO.let_
  obtain ⟨u6, g6, r6⟩ := CO.s12
  refine okN F scName (fun vs H Q E ⟨v, e, _⟩ => by rw [e]; rfl) (fun cdv A outer s H vs Q E hr ⟨v, e, h⟩ => ?_)
  subst e
  refine ⟨_, pss_cons (ps_if (PW.pt (pw_or (pt_not (pt_val (pe_callB call_isi (by rfl) G.isi (by decide +kernel) (pa_cons (pv 0) (pa_cons (pe_bltn (by rfl) G.str (by decide +kernel) (v := .ty "str") rfl) pa_nil)))))
      (pw_or1 (pt_not (pt_chain op_le op_le pe_int (pe_callB call_len_str (by rfl) G.len PySem.boot_len (pa_cons (pv 0) pa_nil)) (pe_glob (v := .int 12) rfl g6 r6)))))) (pss_one (ps_ret pe_bl)) pss_nil)
    (pss_one (ps_ret (pe_and (pe_cmpR op_in_sign (pe_ix ix_str (pv 0) pe_int (fun _ _ => rfl)) (pe_glob (v := .str (Str.ofString "abcdefghijklmnopqrstuvwxyz")) rfl gl rl) rfl)
      (pe_one (pe_callB (cr_all rfl) (by rfl) G.all (by decide +kernel) (pa_cons
          (pe_lc (own := [("sign", 1)]) (g := gName 1) (tt := tYes) rfl scName.nd (pi_str (pv 0)) (blkOk_by (N := ["value", "sign"]) (sc := defScope sName) (by decide +kernel))
            (fun _ _ _ _ _ => pg_name (i := 1) scName.nd rfl (Or.inl rfl)) (fun _ _ _ _ _ => pts_nil) (fun _ _ _ _ _ => pe_or (pe_cmpR op_in_sign (pv 1) (pe_glob (v := .str (Str.ofString "abcdefghijklmnopqrstuvwxyz")) rfl gl rl) rfl) (pe_one (pe_cmpR op_in_sign (pv 1) (pe_glob (v := .str (Str.ofString "0123456789")) rfl gd rd) rfl)))) pa_nil)))))), ?_⟩
  have sz : sizeLine = 16777216 := sizeLine_eq
  rcases h with ⟨⟨t, ty, k1⟩, q⟩ | ⟨x, rfl, lx, q⟩
  · exact ⟨_, rfl, _, _, _, _, _, rfl, .ty "str", .base ty, k1, false, rfl, iteT (q H (Same.refl H))⟩
  refine ⟨_, rfl, _, _, _, _, _, rfl, .ty "str", .base (.str x), kit_ty (a := "str") (b := "str") (r := true) (by decide +kernel), true, rfl, iteF ?_⟩
  refine ⟨_, rfl, _, rfl, (by omega), _, _, rfl, rfl, decide ((1 : Int) ≤ (x.length : Int)), rfl, ?_⟩
  rcases Nat.lt_or_ge x.length 1 with l1 | l1
  · rw [decide_eq_false (show ¬ (1 : Int) ≤ (x.length : Int) by omega)]
    exact iteF ⟨false, rfl, iteT (q false H (fun n => absurd n.l1 (by omega)) (Same.refl H))⟩
  rw [decide_eq_true (show (1 : Int) ≤ (x.length : Int) by omega)]
  refine iteT ⟨_, _, rfl, rfl, decide ((x.length : Int) ≤ 12), rfl, ?_⟩
  rcases Nat.lt_or_ge 12 x.length with l2 | l2
  · rw [decide_eq_false (show ¬ (x.length : Int) ≤ 12 by omega)]
    exact iteT (q false H (fun n => absurd n.l2 (by omega)) (Same.refl H))
  rw [decide_eq_true (show (x.length : Int) ≤ 12 by omega)]
  refine iteF ?_
  obtain ⟨c, hc⟩ : ∃ c, x.cps.toList[0]? = some c := ⟨_, List.getElem?_eq_getElem (by rw [Array.length_toList]; exact l1)⟩
  refine ⟨_, rfl, _, 0, c, rfl, rfl, (by omega), atI_nat (j := 0) hc, c, _, rfl, rfl, isL c, congrArg V.bl (in_let c), ?_⟩
  cases lc : isL c with
  | false =>
    refine iteF (q false H (fun n => ?_) (Same.refl H))
    obtain ⟨c', hc', lc'⟩ := n.hd
    rw [hc] at hc'
    cases hc'
    rw [lc] at lc'
    cases lc'
  | true =>
    refine iteT ⟨_, rfl, _, rfl, fun D hD => ?_⟩
    refine lc_it walk_str (fun i H2 => Same H H2 ∧ H2 D = some (.lst (((x.cps.toList.take i).map fun d => isL d || isD d).map V.bl))) ⟨upd_new hD, upd_same⟩ (fun _ _ _ _ => trivial) ?_ ?_
    · rintro i y H2 H3 hi ⟨s2, h2⟩ ⟨rfl, d, hd, rfl⟩
      have ed : x.cps.toList[i]? = some d := by simpa using hd
      have li : i < x.length := hi
      have fin : ∀ b, b = (isL d || isD d) → ∃ acc, H3 D = some (.lst acc) ∧ acc.length < sizeLine ∧ (Same H (upd H3 D (.lst (acc ++ [V.bl b]))) ∧ upd H3 D (.lst (acc ++ [V.bl b])) D = some (.lst (((x.cps.toList.take (i + 1)).map fun d => isL d || isD d).map V.bl))) := fun b eb =>
        ⟨_, h2, by rw [List.length_map, List.length_map, List.length_take]; omega, same_upd hD s2, by rw [upd_same, take_more ed, eb]; simp⟩
      refine ⟨rfl, yes_of ⟨_, rfl, d, _, rfl, rfl, isL d, congrArg V.bl (in_let d), ?_⟩⟩
      cases e : isL d with
      | true => exact iteT (fin true (by rw [e]; rfl))
      | false =>
        refine iteF ⟨_, rfl, d, _, rfl, rfl, ?_⟩
        rw [in_dig]
        exact fin _ (by rw [e]; rfl)
    · rintro H2 ⟨s2, h2⟩
      refine ⟨D, _, rfl, SqL.of h2, q _ H2 (fun n => ?_) s2⟩
      refine List.all_eq_true.mpr fun b hb => ?_
      obtain ⟨d, md, rfl⟩ := List.mem_map.mp hb
      have z := n.al d (List.mem_of_mem_take md)
      rcases z with z | z <;> simp [z]
abbrev HasNameA (P : Program) (w : World) (K : PySem.W.Frag) (mg : Str → Option Value) (base : Heap) : Prop := Has P w K mg base CX0 1 "is_name" ["value"] (spNameA K)
theorem scStr : FnScope ["swap", "name"] ["swap", "name"] (defScope sStranger) := ⟨rfl, rfl, rfl, by decide +kernel, rfl, by decide +kernel, by decide +kernel⟩
theorem ok_stranger (R : SwapF K CS) (HN : HasNameA P w K mg base) (B : ErrR P w K mg base CN "NoStranger" ["name"]) (F : DefAt K "check_stranger" "check_stranger" sStranger f fd) : FnOk P w K mg base (L2.CX P w) 3 f fd ["swap", "name"] (spStranger K C CH CS CN) := by
  obtain ⟨fn, fdn, mN, kN, bN, GN⟩ := HN.h
  refine okX F scStr (fun vs H Q E ⟨a, v, ns, hs, e, _⟩ => by rw [e]; rfl) (fun cdv A outer s H vs Q E hr ⟨a, v, ns, hs, e, ha, h⟩ => ?_)
  subst e
  have tk : Takes (cxOf (L2.CX P w) P w K mg base ["swap", "name"] "check_stranger" (defScope sStranger) f cdv A outer s H E) (fun cls d _ H' => E cls d H') := takes_of rfl rfl rfl rfl
  refine ⟨_, pss_one (ps_if (PW.pt (pw_or (pt_not (pt_val (pe_call GN (hr.mono (by decide)) rfl mN kN bN .nil pass0 (pa_cons (pv 1) pa_nil)))) (pw_or1 (pt_cmpR op_notIn_seq (pv 1) (pe_fld (pv 0) rfl) (by rfl)))))
      (pss_one (ps_rs B rfl tk (hr.mono (by decide)) (pa_cons (pv 1) pa_nil))) pss_nil), ?_⟩
  obtain ⟨dx, pp, ph, pn, as, nas, h1, h2, h3, h4, h5, h6⟩ := ha
  rcases h with ⟨n, rfl, nm, mem, q⟩ | ⟨bad, q⟩
  · refine ⟨_, rfl, _, rfl, .inr ⟨n, rfl, by have := nm.l2; omega, fun b H1 hb s1 => ⟨b, rfl, ?_⟩⟩⟩
    rw [hb nm]
    refine iteF ⟨_, rfl, _, rfl, a, CS, dx, _, _, rfl, s1 _ _ h1, R.cl, R.nS, fs_s _ _ _, pp, _, rfl, .inr (h2.same s1).sq, rfl, flat_S ns, false, ?_, iteF (q H1 s1)⟩
    rw [inV_S, decide_eq_true mem]
    rfl
  rcases bad with ns1 | ⟨x, rfl, lx, nx⟩
  · refine ⟨_, rfl, v, rfl, .inl ⟨ns1, fun H1 s1 => ⟨false, rfl, iteT ?_⟩⟩⟩
    exact rs_v (D := dD) rfl fun d H' t => q d H' (t.from s1)
  · refine ⟨_, rfl, _, rfl, .inr ⟨x, rfl, lx, fun b H1 hb s1 => ⟨b, rfl, ?_⟩⟩⟩
    cases b with
    | false =>
      refine iteT ?_
      exact rs_v (D := dD) rfl fun d H' t => q d H' (t.from s1)
    | true =>
      refine iteF ⟨_, rfl, _, rfl, a, CS, dx, _, _, rfl, s1 _ _ h1, R.cl, R.nS, fs_s _ _ _, pp, _, rfl, .inr (h2.same s1).sq, rfl, flat_S ns, true, ?_, iteT ?_⟩
      · rw [inV_S, decide_eq_false nx]
        rfl
      · exact rs_v (D := dD) rfl fun d H' t => q d H' (t.from s1)
end
end K5

/-! k04: along, done_sets. -/
namespace K5
open PySem PySem.Spec PyProof.Rows L2 LamX K1 K18 K4 RZ

theorem walk_zipT {K : PySem.W.Frag} {t b : Addr} {xs ys : List V} {n : Nat} (hn : n = min xs.length ys.length) : Walk (ItzT K t b) n (fun H => SqT K H t xs ∧ SqT K H b ys) (YPair (fun i => xs[i]?) (fun i => ys[i]?)) := by
  subst hn
  refine ⟨fun i _ hi q => ⟨xs, ys, xs[i]'(by omega), ys[i]'(by omega), q.1, q.2, List.getElem?_eq_getElem _, List.getElem?_eq_getElem _⟩, fun _ q => ⟨xs, ys, q.1, q.2, by omega⟩, fun i H v H' _ q y => ?_⟩
  obtain ⟨T, x, z, h1, h2, h3, h4, h5⟩ := y
  exact ⟨T, x, z, h1, h2, h3, h4 xs q.1, h5 ys q.2⟩
/-- at p stands a line of sixths -/
def LineAt (C : Addr) (H : Hp) (p : Addr) (zs : List Int) : Prop := ∃ qs, H p = some (.tup (qs.map V.ref)) ∧ All2 (Six C H) qs zs
theorem LineAt.same {C : Addr} {H H' : Hp} {p : Addr} {zs : List Int} (s : Same H H') (h : LineAt C H p zs) : LineAt C H' p zs := let ⟨qs, a, b⟩ := h; ⟨qs, s _ _ a, b.mono fun _ _ z => z.same s⟩
/-- the line behind one more -/
def lineAdd (ns : List Str) (zs : List Int) (h : Hnd) : List Int := (zs.zip ns).map fun z => z.1 + h.eff z.2
def spLineB (C CH CS : Addr) : Sp := fun vs H Q _ => ∃ (a p : Addr) (k : Nat) (ns : List Str) (hs : List Hnd) (zs : List Int) (h : Hnd), vs = [.ref a, .ref p, .int k] ∧ SwAt C CH CS H a ns hs ∧ (∀ h ∈ hs, HnOk h) ∧ hs[k]? = some h ∧ LineAt C H p zs ∧ zs.length = ns.length ∧ ns.length ≤ 6 ∧ (∀ z ∈ zs, z.natAbs < 2 ^ 60) ∧
  ∀ q H', Same H H' → LineAt C H' q (lineAdd ns zs h) → Q (.ref q) H'
section
variable {P : Program} {w : World} {K : PySem.W.Frag} {mg : Str → Option Value} {base : Heap} {f C CH CS CW CD CI CT CU CM CN : Addr} {fd : FuncData}
abbrev nLineB : List Str := ["swap", "line", "number", "total", "name"]
theorem scLineB : FnScope nLineB ["swap", "line", "number"] (defScope sLineB) := ⟨rfl, rfl, rfl, by decide +kernel, rfl, by decide +kernel, by decide +kernel⟩
theorem ok_lineB (G : Glob mg) (R : SwapF K CS) (RH : HandF K CH) (IO : ItemO P w K mg base C CH CS) (EM : EffM P w K mg base C CH) (OA : AddO P w K mg base C CX0 5 (spSum C)) (F : DefAt K "_line_behind" "_line_behind" sLineB f fd) : FnOk P w K mg base CX0 7 f fd ["swap", "line", "number"] (spLineB C CH CS) := by
  obtain ⟨fi, fdi, Mi, ki, bI, GI⟩ := IO.h
  obtain ⟨fe, fde, Me, bE, GE⟩ := EM.h
  obtain ⟨fo, fdo, MO, bO, GO⟩ := OA.o.h
  refine okN F scLineB (fun vs H Q E ⟨a, p, k, ns, hs, zs, h, e, _⟩ => by rw [e]; rfl) (fun cdv A outer s H vs Q E hr ⟨a, p, k, ns, hs, zs, h, e, ha, ok, eh, hl, lz, n6, sm, q⟩ => ?_)
  subst e
  refine ⟨_, pss_one (ps_ret (pe_callTy (r := rTupK K) (call_tupK rfl) (by rfl) G.tup (by decide +kernel) (pa_cons
      (pe_lc (own := [("total", 3), ("name", 4)]) (g := gTup K 2 (gCons (gName 3) (gCons (gName 4) gNil))) (tt := tYes) rfl scLineB.nd (pi_zipA (by rfl) G.zip (pa_cons (pv 1) (pa_cons (pe_fld (pv 0) rfl) pa_nil))) (blkOk_by (N := nLineB) (sc := defScope sLineB) (by decide +kernel))
        (fun _ _ _ _ _ => pg_tup (by rfl) (pgs_cons (pg_name (i := 3) scLineB.nd rfl (Or.inl rfl)) (pgs_cons (pg_name (i := 4) scLineB.nd rfl (Or.inl rfl)) pgs_nil))) (fun _ _ _ _ _ => pts_nil)
        (fun _ _ _ _ _ => pe_op (r := rOwn K C .Add (spSum C) E0) (op_own (op := .Add) (E := E0) MO OA.sf OA.nr GO (hr.mono (by decide)) bO pass0) (pv 3) (pe_meth (E := E0) (pe_itemO (E := E0) Mi ki GI (hr.mono (by decide)) bI pass0 (pv 0) (pv 2)) RH.cl Me GE (hr.mono (by decide)) bE .nil pass0 (pa_cons (pv 4) pa_nil)))) pa_nil))), ?_⟩
  have sz : sizeLine = 16777216 := sizeLine_eq
  obtain ⟨qs, hp, al⟩ := id hl
  obtain ⟨dx, pp, ph, pn, as, nas, h1, h2, h3, h4, h5, h6⟩ := id ha
  refine ⟨_, rfl, _, rfl, a, CS, dx, _, _, rfl, h1, R.cl, R.nS, fs_s _ _ _, p, pp, _, _, rfl, .inr ⟨SqT.of hp, h2.sq, fun D hD => ?_⟩⟩
  have okh := ok h (List.mem_of_getElem? eh)
  have lq : qs.length = zs.length := al.1
  refine lc_it (walk_zipT (n := zs.length) (xs := qs.map V.ref) (ys := ns.map V.str) (by rw [List.length_map, List.length_map, lq, lz, Nat.min_self])) (fun i H2 => Same H H2 ∧ ∃ rs, H2 D = some (.lst (rs.map V.ref)) ∧ All2 (Six C H2) rs (((zs.zip ns).take i).map fun z => z.1 + h.eff z.2)) ⟨upd_new hD, [], upd_same, .nil⟩ (fun i H2 _ z => ⟨SqT.of (z.1 _ _ hp), (h2.same z.1).sq⟩) ?_ ?_
  · rintro i v H2 H3 hi ⟨s2, rs, hd, rl⟩ ⟨T, x, y, rfl, nT, rfl, ex, ey⟩
    obtain ⟨b, eb, rfl⟩ := map_at ex
    obtain ⟨n, en, rfl⟩ := map_at ey
    obtain ⟨z, ez, hb⟩ := al.get eb
    have zz : (zs.zip ns)[i]? = some (z, n) := by rw [List.getElem?_zip_eq_some]; exact ⟨ez, en⟩
    have s3 := upd_new (o := .tup [.ref b, .str n]) nT
    have hT : upd H2 T (.tup [.ref b, .str n]) T = some (.tup [.ref b, .str n]) := upd_same
    generalize upd H2 T (.tup [.ref b, .str n]) = H3 at s3 hT ⊢
    have s23 := s2.trans s3
    have sw3 := ha.same s23
    obtain ⟨dy, _, _, _, _, _, k1, _⟩ := id sw3
    refine ⟨T, _, rfl, SqT.of hT, rfl, _, _, rfl, _, _, rfl, rfl, rfl, yes_of ⟨_, rfl, _, rfl, _, rfl, a, dy, _, rfl, k1, a, ns, hs, (k : Int), h, rfl, sw3, by omega, by rw [Int.toNat_natCast]; exact eh, fun g H4 s4 hg => ?_⟩⟩
    obtain ⟨dg, pc, pd, g1, _, _⟩ := id hg
    refine ⟨g, dg, _, rfl, g1, no_eff _ _ _ _, _, rfl, g, h, n, rfl, hg, okh, fun r H5 s5 hr5 => ?_⟩
    have hb5 := (hb.same s23).same (s4.trans s5)
    obtain ⟨db, b1⟩ := id hb5
    obtain ⟨dr, r1⟩ := id hr5
    have smz := sm z (List.mem_of_getElem? ez)
    have sme := eff_sm okh n
    refine ⟨b, db, _, rfl, b1, .inl ⟨r, dr, _, rfl, r1⟩, b, .ref r, _, _, rfl, hb5, .inl ⟨r, rfl, hr5⟩, by show z.natAbs < 2 ^ 60; omega, by show (h.eff n).natAbs < 2 ^ 60; omega, fun p2 H6 s6 np2 hp2 => ?_⟩
    have s36 := (s4.trans s5).trans s6
    have hd6 := s36 _ _ (s3 _ _ hd)
    refine ⟨_, hd6, ?_, same_upd hD (s23.trans s36), rs ++ [p2], by rw [upd_same, List.map_append]; rfl, ?_⟩
    · rw [List.length_map, rl.1, List.length_map, List.length_take, List.length_zip]; omega
    · rw [take_more zz, List.map_append]
      exact All2.snoc ((rl.mono fun u v z => z.same (s3.trans s36)).mono fun u v z => six_upd hd6 z) (six_upd hd6 hp2)
  · rintro H2 ⟨s2, rs, hd, rl⟩
    have e : (zs.zip ns).take zs.length = zs.zip ns := List.take_of_length_le (by rw [List.length_zip]; omega)
    rw [e] at rl
    refine ⟨D, _, rfl, .inl ⟨SqL.of hd, fun r nr => ?_⟩⟩
    have s3 := upd_new (o := .tup (rs.map V.ref)) nr
    exact q r _ (s2.trans s3) ⟨rs, upd_same, rl.mono fun u v z => z.same s3⟩
end
end K5

/-! k04: done sets, layer by layer. -/
namespace K4

/-- the least number that may follow -/
def nxt (d : List Nat) : Nat := match d.getLast? with
  | some x => x + 1
  | none => 0
/-- d with one number more, below m -/
def more (m : Nat) (d : List Nat) : List (List Nat) := (List.range (m - nxt d)).map fun i => d ++ [nxt d + i]
def layer (m : Nat) : Nat → List (List Nat)
  | 0 => [[]]
  | t + 1 => (layer m t).flatMap (more m)
/-- the first t layers -/
def upto (m : Nat) : Nat → List (List Nat)
  | 0 => []
  | t + 1 => upto m t ++ layer m t
abbrev setsN (m : Nat) : List (List Nat) := upto m (m + 1)
def asc : List Nat → Bool
  | [] => true
  | [_] => true
  | a :: b :: r => decide (a < b) && asc (b :: r)
def goodS (m : Nat) (d : List Nat) : Bool := asc d && d.all (fun x => decide (x < m))
theorem sets_good5 : ∀ m : Fin 6, (setsN m).all (goodS m) = true := by decide +kernel
def chk (m : Nat) : Bool := decide ((upto m 14).length ≤ 4096)
theorem lens12 : ∀ m : Fin 13, chk m = true := by decide +kernel
theorem upto_mono {m : Nat} {s : Nat} (k : Nat) : (upto m s).length ≤ (upto m (s + k)).length := by
  induction k with
  | zero => exact Nat.le_refl _
  | succ k ih =>
    show _ ≤ (upto m (s + k) ++ layer m (s + k)).length
    rw [List.length_append]
    omega
theorem asc_pw : ∀ {l : List Nat}, asc l = true → l.Pairwise (· < ·)
  | [], _ => .nil
  | [_], _ => by simp
  | a :: b :: r, h => by
    rw [asc, Bool.and_eq_true, decide_eq_true_iff] at h
    have z := asc_pw h.2
    refine List.pairwise_cons.mpr ⟨fun y hy => ?_, z⟩
    rcases List.mem_cons.mp hy with rfl | hy
    · exact h.1
    · have := (List.pairwise_cons.mp z).1 y hy
      omega
theorem set_ok {m : Nat} (h : m ≤ 5) {d : List Nat} (hd : d ∈ setsN m) : d.Pairwise (· < ·) ∧ ∀ x ∈ d, x < m := by
  have z := List.all_eq_true.mp (sets_good5 ⟨m, by omega⟩) d hd
  unfold goodS at z
  rw [Bool.and_eq_true] at z
  exact ⟨asc_pw z.1, fun x hx => of_decide_eq_true (List.all_eq_true.mp z.2 x hx)⟩
theorem upto_len {m t : Nat} (h : m ≤ 12) (k : t ≤ 14) : (upto m t).length ≤ 4096 := by
  have z := of_decide_eq_true (lens12 ⟨m, by omega⟩)
  have y := upto_mono (m := m) (s := t) (14 - t)
  rw [show t + (14 - t) = 14 by omega] at y
  exact Nat.le_trans y z
theorem layer_len {m t : Nat} (h : m ≤ 12) (k : t ≤ 13) : (layer m t).length ≤ 4096 := by
  have z := upto_len (m := m) (t := t + 1) h (by omega)
  rw [show upto m (t + 1) = upto m t ++ layer m t from rfl, List.length_append] at z
  omega
theorem mem_upto {m t : Nat} {d : List Nat} : d ∈ upto m t → ∃ s, s < t ∧ d ∈ layer m s := by
  induction t with
  | zero => intro h; cases h
  | succ t ih =>
    intro h
    rcases List.mem_append.mp h with h | h
    · obtain ⟨s, a, b⟩ := ih h
      exact ⟨s, by omega, b⟩
    · exact ⟨t, by omega, h⟩
theorem layer_deep {m : Nat} : ∀ {t : Nat} {d : List Nat}, d ∈ layer m t → d.length = t
  | 0, d, h => by rw [List.mem_singleton.mp h]; rfl
  | t + 1, d, h => by
    obtain ⟨e, me, h⟩ := List.mem_flatMap.mp h
    obtain ⟨i, _, rfl⟩ := List.mem_map.mp h
    rw [List.length_append, layer_deep me]
    rfl
theorem layer_nxt {m : Nat} : ∀ {t : Nat} {d : List Nat}, d ∈ layer m t → nxt d ≤ m
  | 0, d, h => by rw [List.mem_singleton.mp h]; exact Nat.zero_le _
  | t + 1, d, h => by
    obtain ⟨e, me, h⟩ := List.mem_flatMap.mp h
    obtain ⟨i, mi, rfl⟩ := List.mem_map.mp h
    have := List.mem_range.mp mi
    unfold nxt
    rw [List.getLast?_concat]
    show nxt e + i + 1 ≤ m
    omega
theorem more_at {m : Nat} {d : List Nat} {i : Nat} (h : i < m - nxt d) : (more m d)[i]? = some (d ++ [nxt d + i]) := by
  unfold more
  rw [List.getElem?_map, List.getElem?_range h]
  rfl
theorem more_len (m : Nat) (d : List Nat) : (more m d).length = m - nxt d := by unfold more; simp
/-- twelve hand-overs -/
def chk12 (l : List (List Nat)) : Bool := decide (l.length = 4096) && decide (l.take 13 = [] :: (List.range 12).map fun n => [n]) && decide (l[4095]? = some (List.range 12))
theorem twelve_all : chk12 (setsN 12) = true := by decide +kernel
theorem twelve_len : (setsN 12).length = 4096 := by
  have z := twelve_all
  unfold chk12 at z
  rw [Bool.and_eq_true, Bool.and_eq_true] at z
  exact of_decide_eq_true z.1.1
theorem twelve_first : (setsN 12).take 13 = [] :: (List.range 12).map fun n => [n] := by
  have z := twelve_all
  unfold chk12 at z
  rw [Bool.and_eq_true, Bool.and_eq_true] at z
  exact of_decide_eq_true z.1.2
theorem twelve_last : (setsN 12)[4095]? = some (List.range 12) := by
  have z := twelve_all
  unfold chk12 at z
  rw [Bool.and_eq_true, Bool.and_eq_true] at z
  exact of_decide_eq_true z.2
end K4

/-! k04: comprehensions with two walks; loops of generators. -/
namespace K5
open PySem PySem.Spec PyProof.Rows L2 LamX K1 K18 K4

section
variable {J J' : It} {n n' : Nat} {G G' : Hp → Prop} {Y Y' : Nat → Hp → V → Hp → Prop}
theorem lc2_outW (w : Walk J n G Y) {g g1 : TG} {tt1 : TT} {te : TE} {wi1 : TI} {vs vs1 : List Nat} {σ : L2.St} {H1 : Hp} {D : Addr} {Qd : Hp → Prop} (Pv : Nat → Hp → Prop) (h0 : Pv 0 (upd H1 D (.lst []))) (hG : ∀ i H, i ≤ n → Pv i H → G H)
    (hs : ∀ i x H H', i < n → Pv i H → Y i H x H' → g x (wipe σ vs) H' fun σ2 H2 => wipe σ2 vs = wipe σ vs ∧ wi1 σ2 H2 fun J1 H4 => ∃ W1 : Nat → Nat → Hp → Prop, (∃ m, W1 0 m H4) ∧ ∀ j k H, W1 j k H →
      (J1.stop j H ∧ Pv (i + 1) H) ∨ (J1.go j H ∧ ∃ Nx1 : Hp → Prop, (∀ H', Nx1 H' → ∃ k', k' < k ∧ W1 (j + 1) k' H') ∧ ∀ x H', J1.yld j H x H' → g1 x (wipe σ2 vs1) H' fun σ3 H5 => wipe σ3 vs1 = wipe σ2 vs1 ∧ tt1 σ3 H5 fun b H6 =>
        if b = true then te σ3 H6 fun y H7 => ∃ acc, H7 D = some (.lst acc) ∧ acc.length < sizeLine ∧ Nx1 (upd H7 D (.lst (acc ++ [y]))) else Nx1 H6)) (hd : ∀ H, Pv n H → Qd H) :
    ∃ W : Nat → Nat → Hp → Prop, (∃ m, W 0 m (upd H1 D (.lst []))) ∧ ∀ i m H, W i m H →
      (J.stop i H ∧ Qd H) ∨ (J.go i H ∧ ∃ Nx : Hp → Prop, (∀ H', Nx H' → ∃ m', m' < m ∧ W (i + 1) m' H') ∧ ∀ x H', J.yld i H x H' → g x (wipe σ vs) H' fun σ2 H2 => wipe σ2 vs = wipe σ vs ∧ tYes σ2 H2 fun b H3 =>
        if b = true then wi1 σ2 H3 fun J1 H4 => ∃ W1 : Nat → Nat → Hp → Prop, (∃ m, W1 0 m H4) ∧ ∀ j k H, W1 j k H →
          (J1.stop j H ∧ Nx H) ∨ (J1.go j H ∧ ∃ Nx1 : Hp → Prop, (∀ H', Nx1 H' → ∃ k', k' < k ∧ W1 (j + 1) k' H') ∧ ∀ x H', J1.yld j H x H' → g1 x (wipe σ2 vs1) H' fun σ3 H5 => wipe σ3 vs1 = wipe σ2 vs1 ∧ tt1 σ3 H5 fun b H6 =>
            if b = true then te σ3 H6 fun y H7 => ∃ acc, H7 D = some (.lst acc) ∧ acc.length < sizeLine ∧ Nx1 (upd H7 D (.lst (acc ++ [y]))) else Nx1 H6)
        else Nx H3) := by
  refine ⟨fun i m H => m = n - i ∧ i ≤ n ∧ Pv i H, ⟨_, rfl, Nat.zero_le _, h0⟩, ?_⟩
  rintro i m H ⟨rfl, hi, p⟩
  have q := hG i H hi p
  by_cases lt : i < n
  · exact .inr ⟨w.goes i H lt q, Pv (i + 1), fun H' p' => ⟨_, by omega, rfl, lt, p'⟩, fun x H' y => hs i x H H' lt p (w.yields i H x H' lt q y)⟩
  · have e : i = n := by omega
    subst e
    exact .inl ⟨w.stops H q, hd H p⟩
theorem lc2_inW (w : Walk J' n' G' Y') {g1 : TG} {te : TE} {vs1 : List Nat} {σ2 : L2.St} {H4 : Hp} {D : Addr} {Nx : Hp → Prop} (Pw : Nat → Hp → Prop) (h0 : Pw 0 H4) (hG : ∀ i H, i ≤ n' → Pw i H → G' H)
    (hs : ∀ j y H H', j < n' → Pw j H → Y' j H y H' → g1 y (wipe σ2 vs1) H' fun σ3 H5 => wipe σ3 vs1 = wipe σ2 vs1 ∧ te σ3 H5 fun z H7 => ∃ acc, H7 D = some (.lst acc) ∧ acc.length < sizeLine ∧ Pw (j + 1) (upd H7 D (.lst (acc ++ [z])))) (hd : ∀ H, Pw n' H → Nx H) :
    ∃ W1 : Nat → Nat → Hp → Prop, (∃ m, W1 0 m H4) ∧ ∀ j k H, W1 j k H →
      (J'.stop j H ∧ Nx H) ∨ (J'.go j H ∧ ∃ Nx1 : Hp → Prop, (∀ H', Nx1 H' → ∃ k', k' < k ∧ W1 (j + 1) k' H') ∧ ∀ x H', J'.yld j H x H' → g1 x (wipe σ2 vs1) H' fun σ3 H5 => wipe σ3 vs1 = wipe σ2 vs1 ∧ tYes σ3 H5 fun c H6 =>
        if c = true then te σ3 H6 fun y H7 => ∃ acc, H7 D = some (.lst acc) ∧ acc.length < sizeLine ∧ Nx1 (upd H7 D (.lst (acc ++ [y]))) else Nx1 H6) := by
  refine ⟨fun i m H => m = n' - i ∧ i ≤ n' ∧ Pw i H, ⟨_, rfl, Nat.zero_le _, h0⟩, ?_⟩
  rintro i m H ⟨rfl, hi, p⟩
  have q := hG i H hi p
  by_cases lt : i < n'
  · exact .inr ⟨w.goes i H lt q, Pw (i + 1), fun H' p' => ⟨_, by omega, rfl, lt, p'⟩, fun x H' y => hs i x H H' lt p (w.yields i H x H' lt q y)⟩
  · have e : i = n' := by omega
    subst e
    exact .inl ⟨w.stops H q, hd H p⟩
/-- a generator's loop -/
theorem gfor_it (w : Walk J n G Y) {g : TG} {tb : TGn} {D : GEnds} {ys : List V} {σ : L2.St} {H : Hp} (Pv : Nat → List V → L2.St → Hp → Prop) (h0 : Pv 0 ys σ H) (hG : ∀ i ys σ H, i ≤ n → Pv i ys σ H → G H)
    (hs : ∀ i x ys σ H H', i < n → Pv i ys σ H → Y i H x H' → g x σ H' fun σ2 H2 => tb { D with nx := Pv (i + 1), ct := Pv (i + 1), bk := D.nx } ys σ2 H2) (hd : ∀ ys σ H, Pv n ys σ H → D.nx ys σ H) :
    ∃ W : Nat → Nat → List V → L2.St → Hp → Prop, (∃ m, W 0 m ys σ H) ∧ ∀ i m ys σ H, W i m ys σ H →
      (J.stop i H ∧ D.nx ys σ H) ∨ (J.go i H ∧ ∃ N : List V → L2.St → Hp → Prop, (∀ ys' σ' H', N ys' σ' H' → ∃ m', m' < m ∧ W (i + 1) m' ys' σ' H') ∧ ∀ x H', J.yld i H x H' → g x σ H' fun σ2 H2 => tb { D with nx := N, ct := N, bk := D.nx } ys σ2 H2) := by
  refine ⟨fun i m ys σ H => m = n - i ∧ i ≤ n ∧ Pv i ys σ H, ⟨n, by simp, Nat.zero_le _, h0⟩, ?_⟩
  rintro i m ys σ H ⟨rfl, hi, p⟩
  have q := hG i ys σ H hi p
  by_cases lt : i < n
  · exact .inr ⟨w.goes i H lt q, Pv (i + 1), fun ys' σ' H' p' => ⟨n - (i + 1), by omega, rfl, lt, p'⟩, fun x H' y => hs i x ys σ H H' lt p (w.yields i H x H' lt q y)⟩
  · have e : i = n := by omega
    subst e
    exact .inl ⟨w.stops H q, hd ys σ H p⟩
end
theorem at_last {xs : List V} {x : V} (n : 0 < xs.length) (h : xs[xs.length - 1]? = some x) : atI xs (-1) = some x := by
  unfold atI ixN
  rw [if_neg (by decide), if_pos (by omega)]
  show xs[(-1 + (xs.length : Int)).toNat]? = _
  rw [show (-1 + (xs.length : Int)).toNat = xs.length - 1 by omega]
  exact h
end K5

/-! k04: along, done_sets: generators. -/
namespace K5
open PySem PySem.Spec PyProof.Rows L2 LamX K1 K18 K4

theorem HandsW.imp {K : PySem.W.Frag} {CD CH CT : Addr} {m : Int} {v part : V} {H : Hp} {E : XK} {k k' : List Int → Addr → Prop} (h : HandsW K CD CH CT m v part H E k) (f : ∀ ns a, SqA H a (ns.map V.int) → k ns a → k' ns a) : HandsW K CD CH CT m v part H E k' :=
  h.imp id fun ⟨a, ns, e, sq, l, q1, q2, q3⟩ => ⟨a, ns, e, sq, l, q1, q2, fun al nd => f ns a sq (q3 al nd)⟩
def lines (ns : List Str) (hs : List Hnd) (ks : List Nat) : List (List Int) := (List.range (ks.length + 1)).map fun j => ns.map (effs hs (ks.take j))
theorem effs_snoc {hs : List Hnd} {ks : List Nat} {k : Nat} {h : Hnd} (e : hs[k]? = some h) (n : Str) : effs hs (ks ++ [k]) n = effs hs ks n + h.eff n := by
  unfold effs
  rw [List.map_append, List.sum_append]
  simp [e]
theorem effs_nil (hs : List Hnd) (n : Str) : effs hs [] n = 0 := rfl
theorem effs_sm {hs : List Hnd} {ks : List Nat} (ok : ∀ h ∈ hs, HnOk h) (l : ks.length ≤ 100) (n : Str) : (effs hs ks n).natAbs < 2 ^ 60 := by
  have fw : Few (ks.map fun k => match hs[k]? with | some h => h.eff n | none => 0) := ⟨by rw [List.length_map]; exact l, fun x hx => by
    obtain ⟨k, mk, rfl⟩ := List.mem_map.mp hx
    cases e : hs[k]? with
    | none => simp
    | some h => exact eff_sm (ok _ (List.mem_of_getElem? e)) n⟩
  have z := few_sum fw (ks.map fun k => match hs[k]? with | some h => h.eff n | none => 0).length
  rw [List.take_length] at z
  exact z
theorem line_more {ns : List Str} {hs : List Hnd} {ks : List Nat} {k : Nat} {h : Hnd} (e : hs[k]? = some h) : lineAdd ns (ns.map (effs hs ks)) h = ns.map (effs hs (ks ++ [k])) := by
  unfold lineAdd
  induction ns with
  | nil => rfl
  | cons n r ih =>
    rw [List.map_cons, List.zip_cons_cons, List.map_cons, ih, List.map_cons, effs_snoc e]
def spAlong (K : PySem.W.Frag) (C CH CS CW CD CI CT : Addr) : SpG := fun vs H Qg E => ∃ u v, vs = [u, v] ∧ ((NotSw K CS H u ∧ ∀ d H', ToldF H H' d [("part", .str "swap")] → E (.ref CW) (some d) H') ∨
  ∃ a ns hs, u = .ref a ∧ SwAt C CH CS H a ns hs ∧ (∀ h ∈ hs, HnOk h) ∧ hs.length ≤ 50 ∧ ns.length ≤ 6 ∧ HandsW K CD CI CT (hs.length : Nat) v (.str "numbers") H E fun js b => ∃ ks : List Nat, js = nI ks ∧ (∀ k ∈ ks, k < hs.length) ∧ ks.length ≤ 100 ∧
    ∀ (ps : List Addr) H', Same H H' → All2 (LineAt C H') ps (lines ns hs ks) → Qg (ps.map V.ref) H')
theorem gfn_in {P : Program} {w : World} {K : PySem.W.Frag} {mg : Str → Option Value} {base : Heap} {x qual : Str} {st : Stmt} {f : Addr} {fd : FuncData} {N ps : List Str} {k : Nat} {sp : SpG}
    (F : DefAt K x qual st f fd) (S : GScope N ps (defScope st)) (len : ∀ vs H Q E, sp vs H Q E → vs.length = ps.length)
    (hb : ∀ (cdv : Value) (A : Around) (outer : List Env) (s : Shared) (H : Hp) (vs : List V) (Q : List V → Hp → Prop) (E : XK) (pn : List (Addr × Obj)), Room k (A.deeper (envOfC qual (defScope st) s.heap.objs.size f cdv)) → sp vs H Q E →
      ∃ t, GSs (gcxOf P w K mg base N qual (defScope st) f cdv A outer s H E pn) (defBody st) t ∧ t { nx := fun ys _ H' => Q ys H', rt := fun ys v H' => v = .non ∧ Q ys H' } [] (start N vs) H) : GFn P w K mg base (k + 1) f fd ps sp := by
  obtain ⟨oc, od, dV, kV, doc, pm, an, cdv, ct, osl, rfl, lk, hcd, _, _⟩ := F.ex
  exact gfn_of lk hcd S len fun A outer s H vs Q E pn hr h => hb cdv A outer s H vs Q E pn hr h
section
variable {P : Program} {w : World} {K : PySem.W.Frag} {mg : Str → Option Value} {base : Heap} {f C CH CS CW CD CI CT CU CM CN : Addr} {fd : FuncData}
abbrev HasLineB (P : Program) (w : World) (K : PySem.W.Frag) (mg : Str → Option Value) (base : Heap) (C CH CS : Addr) : Prop := Has P w K mg base CX0 7 "_line_behind" ["swap", "line", "number"] (spLineB C CH CS)
abbrev nAlong : List Str := ["swap", "numbers", "told", "line", "number", "name"]
theorem scAlong : GScope nAlong ["swap", "numbers"] (defScope sAlong) := ⟨rfl, rfl, rfl, by decide +kernel, rfl, by decide +kernel, by decide +kernel⟩
theorem ok_along (G : Glob mg) (R : SwapF K CS) (MR : MkR P w K mg base C) (HC : HasCheck P w K mg base C CH CS CW) (HH : HasHands P w K mg base CD CI CT) (OL : LenO P w K mg base C CH CS) (HL : HasLineB P w K mg base C CH CS) (F : DefAt K "along" "along" sAlong f fd) :
    GFn P w K mg base 8 f fd ["swap", "numbers"] (spAlong K C CH CS CW CD CI CT) := by
  obtain ⟨fc, fdc, mC, kC, bC, GC⟩ := HC.h
  obtain ⟨fh, fdh, mH, kH, bH, GH⟩ := HH.h
  obtain ⟨fl, fdl, ML, bL, GL⟩ := OL.o.h
  obtain ⟨fb, fdb, mB, kB, bB, GB⟩ := HL.h
  obtain ⟨fm, fdm, ds, M, GM, _, hv, bM⟩ := MR.m
  refine gfn_in F scAlong (fun vs H Q E ⟨u, v, e, _⟩ => by rw [e]; rfl) (fun cdv A outer s H vs Q E pn hr ⟨u, v, e, h⟩ => ?_)
  subst e
  have ps := passes_call (X := gcxOf P w K mg base nAlong "along" (defScope sAlong) f cdv A outer s H E pn) (takes_gcx (N := nAlong) (E := E)) (E := E) fun _ _ _ _ z => z
  refine ⟨_, gss_cons (gs_ps (ps_expr (pe_call GC (hr.mono (by decide)) rfl mC kC bC .nil ps (pa_cons (pv 0) pa_nil))))
    (gss_cons (gs_ps (ps_set (i := 2) scAlong.nd rfl (Or.inl rfl) (pe_call GH (hr.mono (by decide)) rfl mH kH bH .nil ps (pa_cons (pe_callB (call_lenO ML GL (hr.mono (by decide)) bL pass0) (by rfl) G.len PySem.boot_len (pa_cons (pv 0) pa_nil)) (pa_cons (pv 1) (pa_cons pe_str pa_nil))))))
    (gss_cons (gs_ps (ps_set (i := 3) scAlong.nd rfl (Or.inl rfl) (pe_callTy (r := rTupK K) (call_tupK rfl) (by rfl) G.tup (by decide +kernel) (pa_cons
      (pe_lc (own := [("name", 5)]) (g := gName 5) (tt := tYes) rfl scAlong.nd (pi_tup (pe_fld (pv 0) rfl)) (blkOk_by (N := nAlong) (sc := defScope sAlong) (by decide +kernel))
        (fun _ _ _ _ _ => pg_name (i := 5) scAlong.nd rfl (Or.inl rfl)) (fun _ _ _ _ _ => pts_nil) (fun _ _ _ _ _ => pe_make (E := E0) M GM (hr.mono (by decide)) rfl MR.g bM hv pass0 (pa_cons pe_int pa_nil))) pa_nil))))
    (gss_cons (gs_yield (pv 3))
    (gss_cons (gs_for owns_gcx rfl (pi_tup (pv 2)) (pg_name (i := 4) scAlong.nd rfl (Or.inl rfl))
      (gss_cons (gs_ps (ps_set (i := 3) scAlong.nd rfl (Or.inl rfl) (pe_call (E := E0) GB hr rfl mB kB bB .nil pass0 (pa_cons (pv 0) (pa_cons (pv 3) (pa_cons (pv 4) pa_nil))))))
      (gss_cons (gs_yield (pv 3)) gss_nil))) gss_nil)))), ?_⟩
  have sz : sizeLine = 16777216 := sizeLine_eq
  rcases h with ⟨nt, q⟩ | ⟨a, ns, hs, rfl, ha, ok, l50, n6, hw⟩
  · exact ⟨_, rfl, u, rfl, .inr ⟨nt, q⟩⟩
  refine ⟨_, rfl, _, rfl, .inl ⟨a, ns, hs, rfl, ha, ?_⟩⟩
  obtain ⟨dx, pp, ph, pq, as, nas, h1, h2, h3, h4, h5, h6⟩ := id ha
  refine ⟨_, rfl, a, dx, _, rfl, h1, a, ns, hs, rfl, ha, _, rfl, by omega, by omega, _, rfl, _, _, _, rfl, HandsW.imp hw ?_⟩
  rintro js b _ ⟨ks, ej, lt, lk, q⟩ t H1 s1 ht
  subst ej
  rw [← kV_eq] at ht
  have sw1 := ha.same s1
  have h12 := h2.same s1
  refine ⟨_, rfl, a, CS, dx, _, _, rfl, s1 _ _ h1, R.cl, R.nS, fs_s _ _ _, pp, rfl, ⟨_, h12.sq⟩, fun D hD => ?_⟩
  refine lc_tup (K := K) (a := pp) (xs := ns.map V.str) (fun i H2 => Same H1 H2 ∧ SixL C H2 D ((ns.take i).map (effs hs []))) ⟨upd_new hD, [], upd_same, .nil⟩ (fun i H2 _ z => (h12.same z.1).sq) ?_ ?_
  · rintro i x H2 hx ⟨s2, sl2⟩
    obtain ⟨n, en, rfl⟩ := map_at hx
    have li := (List.getElem?_eq_some_iff.mp en).1
    refine ⟨rfl, yes_of (mk_int (by decide) fun p H3 s3 np hp => ?_)⟩
    obtain ⟨qs, hd, al⟩ := sl2.same s3
    refine ⟨_, hd, ?_, same_upd hD (s2.trans s3), qs ++ [p], by rw [upd_same, List.map_append]; rfl, ?_⟩
    · rw [List.length_map, al.1, List.length_map, List.length_take]; omega
    · rw [take_more en, List.map_append]
      exact All2.snoc (al.mono fun u v z => six_upd hd z) (six_upd hd hp)
  rintro H2 ⟨s2, qs, hd, al⟩
  rw [List.length_map, List.take_length] at al
  refine ⟨D, _, rfl, .inl ⟨SqL.of hd, fun p0 np0 => ?_⟩⟩
  have s3 := upd_new (o := .tup (qs.map V.ref)) np0
  have hp0 : LineAt C (upd H2 p0 (.tup (qs.map V.ref))) p0 (ns.map (effs hs [])) := ⟨qs, upd_same, al.mono fun u v z => z.same s3⟩
  generalize upd H2 p0 (.tup (qs.map V.ref)) = H3 at s3 hp0 ⊢
  have s13 := s2.trans s3
  refine ⟨(by show 0 < sizeLine; omega), _, rfl, ?_⟩
  refine ⟨_, rfl, t, rfl, ⟨_, SqT.of (s13 _ _ ht)⟩, ?_⟩
  refine gfor_it (walk_tup (xs := kV ks)) (fun i ys σ H5 => ∃ (p : Addr) (z4 : Option V) (ps : List Addr), σ = [some (.ref a), some v, some (.ref t), some (.ref p), z4, none] ∧ ys = ps.map V.ref ∧ Same H3 H5 ∧ LineAt C H5 p (ns.map (effs hs (ks.take i))) ∧ All2 (LineAt C H5) ps ((List.range (i + 1)).map fun j => ns.map (effs hs (ks.take j))))
    ⟨p0, none, [p0], rfl, rfl, Same.refl _, hp0, All2.nil.snoc hp0⟩ (fun i ys σ H5 _ ⟨_, _, _, _, _, s5, _⟩ => SqT.of (s5 _ _ (s13 _ _ ht))) ?_ ?_
  · rintro i x ys σ H5 H6 hi ⟨p, z4, ps, rfl, rfl, s5, lp, al5⟩ ⟨rfl, ex⟩
    obtain ⟨k, ek, rfl⟩ := map_at ex
    have hk := lt k (List.mem_of_getElem? ek)
    have eh : hs[k]? = some hs[k] := List.getElem?_eq_getElem hk
    have li := (List.getElem?_eq_some_iff.mp ek).1
    have lps := al5.1
    rw [List.length_map, List.length_range] at lps
    refine ⟨_, rfl, _, rfl, _, rfl, a, p, k, ns, hs, _, hs[k], rfl, (sw1.same s13).same s5, ok, eh, lp, by rw [List.length_map], n6, fun z hz => ?_, fun q' H7 s7 lq => ?_⟩
    · obtain ⟨n, _, rfl⟩ := List.mem_map.mp hz
      exact effs_sm ok (by rw [List.length_take]; omega) n
    rw [line_more eh, ← take_more ek] at lq
    refine ⟨(by rw [List.length_map]; omega), _, rfl, q', _, ps ++ [q'], rfl, by rw [List.map_append]; rfl, s5.trans s7, lq, ?_⟩
    rw [List.range_succ, List.map_append]
    exact (al5.mono fun u v z => z.same s7).snoc lq
  · rintro ys σ H5 ⟨p, z4, ps, rfl, rfl, s5, lp, al5⟩
    rw [kV_len] at al5
    exact q ps H5 ((s1.trans s13).trans s5) al5
end
end K5

/-! k44: along, walked by a comprehension that takes the item at pl of each line. -/
namespace K5
open PySem PySem.Spec PyProof.Rows L2 LamX K1 K18 K4

/-- what one has along the way -/
def goes (hs : List Hnd) (ks : List Nat) (n : Str) : List Int := (List.range (ks.length + 1)).map fun j => effs hs (ks.take j) n
def spAlZ (C CH CS : Addr) (pl : Nat) : SpG := fun vs H Qg _ => ∃ a b ns hs ks n, vs = [.ref a, .ref b] ∧ SwAt C CH CS H a ns hs ∧ (∀ h ∈ hs, HnOk h) ∧ hs.length ≤ 50 ∧ ns.length ≤ 6 ∧ ns[pl]? = some n ∧ SqA H b (kV ks) ∧ ks.Perm (List.range hs.length) ∧
  ∀ (qs : List Addr) H', Same H H' → All2 (Six C H') qs (goes hs ks n) → Qg (qs.map V.ref) H'
theorem fnz_in {P : Program} {w : World} {K : PySem.W.Frag} {mg : Str → Option Value} {base : Heap} {x qual : Str} {st : Stmt} {f : Addr} {fd : FuncData} {N ps : List Str} {k : Nat} {FZ : ItZ} {sp : SpG}
    (F : DefAt K x qual st f fd) (S : GScope N ps (defScope st)) (nc : ∀ y ∈ (defScope st).names, y.2 ≠ .cell) (len : ∀ vs H Q E, sp vs H Q E → vs.length = ps.length)
    (hb : ∀ (cdv : Value) (A : Around) (outer : List Env) (s : Shared) (H : Hp) (vs : List V) (Q : List V → Hp → Prop) (E : XK) (pn : List (Addr × Obj)), Room k (A.deeper (envOfC qual (defScope st) s.heap.objs.size f cdv)) → sp vs H Q E →
      ∃ t, GSsz (zcx P w K mg base N qual (defScope st) f cdv A outer s H pn) FZ (defBody st) t ∧ t { nx := fun ys _ H' => Q ys H', rt := fun ys v H' => v = .non ∧ Q ys H' } [] (start N vs) H) : FnZ P w K mg base (k + 1) f fd ps FZ sp := by
  obtain ⟨oc, od, dV, kV, doc, pm, an, cdv, ct, osl, rfl, lk, hcd, _, _⟩ := F.ex
  exact fnz_of lk hcd S nc len fun A outer s H vs Q E pn hr h => hb cdv A outer s H vs Q E pn hr h
theorem line_item {C : Addr} {H : Hp} {p : Addr} {ns : List Str} {g : Str → Int} {pl : Nat} {n : Str} (hn : ns[pl]? = some n) (h : LineAt C H p (ns.map g)) : (∃ z, FZi pl H (.ref p) z) ∧ ∀ z, FZi pl H (.ref p) z → ∃ q, z = .ref q ∧ Six C H q (g n) := by
  obtain ⟨qs, hp, al⟩ := h
  obtain ⟨q, eq, hq⟩ := al.getR (y := g n) (i := pl) (by rw [List.getElem?_map, hn]; rfl)
  have e : (qs.map V.ref)[pl]? = some (.ref q) := by rw [List.getElem?_map, eq]; rfl
  refine ⟨⟨.ref q, p, _, rfl, hp, e⟩, fun z ⟨p', xs, ep, hp', ez⟩ => ?_⟩
  obtain rfl : p = p' := V.ref.inj ep
  rw [hp] at hp'
  obtain rfl : qs.map V.ref = xs := by injection hp' with z; injection z
  rw [e] at ez
  exact ⟨q, (Option.some.inj ez).symm, hq⟩
section
variable {P : Program} {w : World} {K : PySem.W.Frag} {mg : Str → Option Value} {base : Heap} {f C CH CS CW CD CI CT CU CM CN : Addr} {fd : FuncData}
theorem ok_alZ (pl : Nat) (G : Glob mg) (R : SwapF K CS) (MR : MkR P w K mg base C) (HC : HasCheck P w K mg base C CH CS CW) (HH : HasHands P w K mg base CD CI CT) (OL : LenO P w K mg base C CH CS) (HL : HasLineB P w K mg base C CH CS) (F : DefAt K "along" "along" sAlong f fd) :
    FnZ P w K mg base 8 f fd ["swap", "numbers"] (FZi pl) (spAlZ C CH CS pl) := by
  obtain ⟨fc, fdc, mC, kC, bC, GC⟩ := HC.h
  obtain ⟨fh, fdh, mH, kH, bH, GH⟩ := HH.h
  obtain ⟨fl, fdl, ML, bL, GL⟩ := OL.o.h
  obtain ⟨fb, fdb, mB, kB, bB, GB⟩ := HL.h
  obtain ⟨fm, fdm, ds, M, GM, _, hv, bM⟩ := MR.m
  refine fnz_in F scAlong (by decide +kernel) (fun vs H Q E ⟨a, b, ns, hs, ks, n, e, _⟩ => by rw [e]; rfl) (fun cdv A outer s H vs Q E pn hr ⟨a, b, ns, hs, ks, n, e, ha, ok, l50, n6, hn, sq, pm, q⟩ => ?_)
  subst e
  refine ⟨_, gz_cons (gz_ps (ps_expr (pe_call (E := E0) GC (hr.mono (by decide)) rfl mC kC bC .nil passL (pa_cons (pv 0) pa_nil))))
    (gz_cons (gz_ps (ps_set (i := 2) scAlong.nd rfl (Or.inl rfl) (pe_call (E := E0) GH (hr.mono (by decide)) rfl mH kH bH .nil passL (pa_cons (pe_callB (call_lenO ML GL (hr.mono (by decide)) bL pass0) (by rfl) G.len PySem.boot_len (pa_cons (pv 0) pa_nil)) (pa_cons (pv 1) (pa_cons pe_str pa_nil))))))
    (gz_cons (gz_ps (ps_set (i := 3) scAlong.nd rfl (Or.inl rfl) (pe_callTy (r := rTupK K) (call_tupK rfl) (by rfl) G.tup (by decide +kernel) (pa_cons
      (pe_lc (own := [("name", 5)]) (g := gName 5) (tt := tYes) rfl scAlong.nd (pi_tup (pe_fld (pv 0) rfl)) (blkOk_by (N := nAlong) (sc := defScope sAlong) (by decide +kernel))
        (fun _ _ _ _ _ => pg_name (i := 5) scAlong.nd rfl (Or.inl rfl)) (fun _ _ _ _ _ => pts_nil) (fun _ _ _ _ _ => pe_make (E := E0) M GM (hr.mono (by decide)) rfl MR.g bM hv pass0 (pa_cons pe_int pa_nil))) pa_nil))))
    (gz_cons (gz_yield (pv 3))
    (gz_cons (gz_for rfl (pi_tup (pv 2)) (pg_name (i := 4) scAlong.nd rfl (Or.inl rfl))
      (gz_cons (gz_ps (ps_set (i := 3) scAlong.nd rfl (Or.inl rfl) (pe_call (E := E0) GB hr rfl mB kB bB .nil pass0 (pa_cons (pv 0) (pa_cons (pv 3) (pa_cons (pv 4) pa_nil))))))
      (gz_cons (gz_yield (pv 3)) gz_nil))) gz_nil)))), ?_⟩
  have sz : sizeLine = 16777216 := sizeLine_eq
  have lk := pm.length_eq
  rw [List.length_range] at lk
  obtain ⟨dx, pp, ph, pq, as, nas, h1, h2, h3, h4, h5, h6⟩ := id ha
  refine ⟨_, rfl, _, rfl, .inl ⟨a, ns, hs, rfl, ha, ?_⟩⟩
  refine ⟨_, rfl, a, dx, _, rfl, h1, a, ns, hs, rfl, ha, _, rfl, by omega, by omega, _, rfl, _, _, _, rfl, handsW_good sq pm List.pairwise_lt_range (fun x hx => List.mem_range.mp hx) (by rw [List.length_range]; omega) ?_⟩
  intro t H1 s1 ht
  rw [← kV_eq] at ht
  have sw1 := ha.same s1
  have h12 := h2.same s1
  refine ⟨_, rfl, a, CS, dx, _, _, rfl, s1 _ _ h1, R.cl, R.nS, fs_s _ _ _, pp, rfl, ⟨_, h12.sq⟩, fun D hD => ?_⟩
  refine lc_tup (K := K) (a := pp) (xs := ns.map V.str) (fun i H2 => Same H1 H2 ∧ SixL C H2 D ((ns.take i).map (effs hs []))) ⟨upd_new hD, [], upd_same, .nil⟩ (fun i H2 _ z => (h12.same z.1).sq) ?_ ?_
  · rintro i x H2 hx ⟨s2, sl2⟩
    obtain ⟨m, en, rfl⟩ := map_at hx
    have li := (List.getElem?_eq_some_iff.mp en).1
    refine ⟨rfl, yes_of (mk_int (by decide) fun p H3 s3 np hp => ?_)⟩
    obtain ⟨qs, hd, al⟩ := sl2.same s3
    refine ⟨_, hd, ?_, same_upd hD (s2.trans s3), qs ++ [p], by rw [upd_same, List.map_append]; rfl, ?_⟩
    · rw [List.length_map, al.1, List.length_map, List.length_take]; omega
    · rw [take_more en, List.map_append]
      exact All2.snoc (al.mono fun u v z => six_upd hd z) (six_upd hd hp)
  rintro H2 ⟨s2, qs, hd, al⟩
  rw [List.length_map, List.take_length] at al
  refine ⟨D, _, rfl, .inl ⟨SqL.of hd, fun p0 np0 => ?_⟩⟩
  have s3 := upd_new (o := .tup (qs.map V.ref)) np0
  have hp0 : LineAt C (upd H2 p0 (.tup (qs.map V.ref))) p0 (ns.map (effs hs [])) := ⟨qs, upd_same, al.mono fun u v z => z.same s3⟩
  generalize upd H2 p0 (.tup (qs.map V.ref)) = H3 at s3 hp0 ⊢
  have s13 := s2.trans s3
  obtain ⟨ex0, at0⟩ := line_item hn hp0
  refine ⟨(by show 0 < sizeLine; omega), _, rfl, ex0, fun z fz => ?_⟩
  obtain ⟨q0, rfl, hq0⟩ := at0 z fz
  refine ⟨_, rfl, t, rfl, ⟨_, SqT.of (s13 _ _ ht)⟩, ?_⟩
  refine gfor_it (walk_tup (xs := kV ks)) (fun i ys σ H5 => ∃ (p : Addr) (z4 : Option V) (qs : List Addr), σ = [some (.ref a), some (.ref b), some (.ref t), some (.ref p), z4, none] ∧ ys = qs.map V.ref ∧ Same H3 H5 ∧ LineAt C H5 p (ns.map (effs hs (ks.take i))) ∧ All2 (Six C H5) qs ((List.range (i + 1)).map fun j => effs hs (ks.take j) n))
    ⟨p0, none, [q0], rfl, rfl, Same.refl _, hp0, All2.nil.snoc hq0⟩ (fun i ys σ H5 _ ⟨_, _, _, _, _, s5, _⟩ => SqT.of (s5 _ _ (s13 _ _ ht))) ?_ ?_
  · rintro i x ys σ H5 H6 hi ⟨p, z4, qs, rfl, rfl, s5, lp, al5⟩ ⟨rfl, ex⟩
    obtain ⟨k, ek, rfl⟩ := map_at ex
    have hk : k < hs.length := List.mem_range.mp (pm.mem_iff.mp (List.mem_of_getElem? ek))
    have eh : hs[k]? = some hs[k] := List.getElem?_eq_getElem hk
    have li := (List.getElem?_eq_some_iff.mp ek).1
    have lqs := al5.1
    rw [List.length_map, List.length_range] at lqs
    refine ⟨_, rfl, _, rfl, _, rfl, a, p, k, ns, hs, _, hs[k], rfl, (sw1.same s13).same s5, ok, eh, lp, by rw [List.length_map], n6, fun z hz => ?_, fun q' H7 s7 lq => ?_⟩
    · obtain ⟨m, _, rfl⟩ := List.mem_map.mp hz
      exact effs_sm ok (by rw [List.length_take]; omega) m
    rw [line_more eh, ← take_more ek] at lq
    obtain ⟨ex1, at1⟩ := line_item hn lq
    refine ⟨(by rw [List.length_map]; omega), _, rfl, ex1, fun z fz => ?_⟩
    obtain ⟨q1, rfl, hq1⟩ := at1 z fz
    refine ⟨q', _, qs ++ [q1], rfl, by rw [List.map_append]; rfl, s5.trans s7, lq, ?_⟩
    rw [List.range_succ, List.map_append]
    exact (al5.mono fun u v z => z.same s7).snoc hq1
  · rintro ys σ H5 ⟨p, z4, qs, rfl, rfl, s5, lp, al5⟩
    rw [kV_len] at al5
    exact q qs H5 ((s1.trans s13).trans s5) al5
end
end K5

/-! k04: is_even, is_gainful, is_even_priced, net. -/
namespace K5
open PySem PySem.Spec PyProof.Rows L2 LamX K1 K18 K4
theorem StrW.goM {K : PySem.W.Frag} {CN : Addr} {ns : List Str} {v : V} {H H' : Hp} {E : XK} {k k' : Str → Prop} (s : Same H H') (h : StrW K CN ns v H E k) (f : ∀ n, v = .str n → n ∈ ns → k n → k' n) : StrW K CN ns v H' E k' :=
  h.imp (fun ⟨n, a, b, c, d⟩ => ⟨n, a, b, c, f n a c d⟩) fun ⟨a, b⟩ => ⟨a.same s, fun d H2 t => b d H2 (t.from s)⟩
theorem StrW.go {K : PySem.W.Frag} {CN : Addr} {ns : List Str} {v : V} {H H' : Hp} {E : XK} {k k' : Str → Prop} (s : Same H H') (h : StrW K CN ns v H E k) (f : ∀ n, v = .str n → k n → k' n) : StrW K CN ns v H' E k' :=
  h.imp (fun ⟨n, a, b, c, d⟩ => ⟨n, a, b, c, f n a d⟩) fun ⟨a, b⟩ => ⟨a.same s, fun d H2 t => b d H2 (t.from s)⟩
abbrev HasStranger (P : Program) (w : World) (K : PySem.W.Frag) (mg : Str → Option Value) (base : Heap) (C CH CS CN : Addr) : Prop := Has P w K mg base (L2.CX P w) 3 "check_stranger" ["swap", "name"] (spStranger K C CH CS CN)

def spNet (K : PySem.W.Frag) (C CH CS CN : Addr) : Sp := fun vs H Q E => ∃ a v ns hs, vs = [.ref a, v] ∧ SwAt C CH CS H a ns hs ∧ ns.Nodup ∧ StrW K CN ns v H E fun n => ∀ p H', Same H H' → Six C H' p (net hs n) → Q (.ref p) H'
section
variable {P : Program} {w : World} {K : PySem.W.Frag} {mg : Str → Option Value} {base : Heap} {f C CH CS CW CD CI CT CU CM CN : Addr} {fd : FuncData}
theorem K2nd {ns : List Str} (nd : ns.Nodup) {i j : Nat} {x : Str} (a : ns[i]? = some x) (b : ns[j]? = some x) : i = j := by
  obtain ⟨h1, e1⟩ := List.getElem?_eq_some_iff.mp a
  obtain ⟨h2, e2⟩ := List.getElem?_eq_some_iff.mp b
  exact (List.getElem_inj nd).mp (e1.trans e2.symm)
def tyZ : V → Hp → Prop := fun x H => ∃ p xs, x = .ref p ∧ TupZ H p xs
theorem ty_tup {X : Cx} : TyOk X "tuple" tyZ := by
  intro pins σ H s x v I r ty
  obtain ⟨p, xs, rfl, o, h, od⟩ := ty
  cases r
  obtain ⟨e, _, its, _, oo, e2, cl, n, dt⟩ := (show s.heap.get? p = some o ∧ ObjOk X.prog X.w H s.heap p (.tup xs) from I.hok p _ h)
  rw [e] at e2
  cases e2
  exact ⟨⟨o, e, cl⟩, fun a ea => by cases ea; exact ⟨o, e, od⟩⟩
theorem scNetM : FnScope ["self", "name"] ["self", "name"] (defScope sSNet) := ⟨rfl, rfl, rfl, by decide +kernel, rfl, by decide +kernel, by decide +kernel⟩
theorem ok_net (R : SwapF K CS) (HS : HasStranger P w K mg base C CH CS CN) (F : DefAt K "net" "Swap.net" sSNet f fd) : FnOk P w K mg base (L2.CX P w) 4 f fd ["self", "name"] (spNet K C CH CS CN) := by
  obtain ⟨fs_, fds, mS, kS, bS, GS⟩ := HS.h
  refine okX F scNetM (fun vs H Q E ⟨a, v, ns, hs, e, _⟩ => by rw [e]; rfl) (fun cdv A outer s H vs Q E hr ⟨a, v, ns, hs, e, ha, nd, q⟩ => ?_)
  subst e
  have tk : Takes (cxOf (L2.CX P w) P w K mg base ["self", "name"] "Swap.net" (defScope sSNet) f cdv A outer s H E) (fun cls d _ H' => E cls d H') := takes_of rfl rfl rfl rfl
  have ps := passes_call tk (E := E) fun _ _ _ _ z => z
  refine ⟨_, pss_cons (ps_expr (pe_call GS hr rfl mS kS bS .nil ps (pa_cons (pv 0) (pa_cons (pv 1) pa_nil))))
    (pss_one (ps_ret (pe_ix ix_tup (pe_fld (pv 0) rfl) (pe_mG ty_tup PySem.F.plainAttrs_tuple PySem.F.slot_tuple_index PySem.F.type_tuple_index mt_tup_index (pe_fld (pv 0) rfl) (pa_cons (pv 1) pa_nil)) (fun _ _ => rfl)))), ?_⟩
  refine ⟨_, rfl, _, rfl, a, v, ns, hs, rfl, ha, q.goM (Same.refl H) fun n ev mem q2 H1 s1 => ?_⟩
  subst ev
  obtain ⟨dx, pp, ph, pn, as, nas, h1, h2, h3, h4, h5, h6⟩ := ha.same s1
  obtain ⟨j, ej⟩ := List.mem_iff_getElem?.mp mem
  obtain ⟨b, eb, hb⟩ := h6.getR (y := net hs n) (i := j) (by rw [List.getElem?_map, ej]; rfl)
  have lj := (List.getElem?_eq_some_iff.mp ej).1
  refine ⟨_, rfl, a, CS, dx, _, _, rfl, h1, R.cl, R.nN, fs_n _ _ _, _, rfl, a, CS, dx, _, _, rfl, h1, R.cl, R.nS, fs_s _ _ _, ⟨pp, _, rfl, h2⟩, _, rfl, pp, ns, n, j, rfl, rfl, h2.sq, ej, fun m hm em => ?_, pn, nas.map V.ref, _, _, rfl, rfl, SqT.of h5, atI_nat (j := j) (by rw [List.getElem?_map, eb]; rfl), q2 b H1 s1 hb⟩
  exact absurd (K2nd nd em ej) (by omega)
end
end K5

/-! k44: is_row, row_told. -/
namespace K5
open PySem PySem.Spec PyProof.Rows L2 LamX K1 K18

/-- ends that do not matter -/
def dR : Ends := { nx := fun _ _ => False, rt := fun _ _ => False }
/-- no list or tuple of ints -/
def OddRow (K : PySem.W.Frag) (H : Hp) (v : V) : Prop := NotSeq K H v ∨ ∃ a xs bs, v = .ref a ∧ SqA H a xs ∧ xs.length ≤ 1000 ∧ IBs K H xs bs ∧ bs.all id = false
/-- sorted ints against the numbers below m -/
theorem sorted_row {ms js : List Int} {m : Nat} (p : ms.Perm js) (s : ms.Pairwise (· ≤ ·)) : ms = nI (List.range m) ↔ js.Perm (nI (List.range m)) := by
  constructor
  · rintro rfl; exact p.symm
  · intro q
    refine List.Perm.eq_of_pairwise (le := (· ≤ ·)) (fun a b _ _ x y => by omega) s ?_ (p.trans q)
    exact List.pairwise_map.mpr (List.pairwise_lt_range.imp fun h => by omega)
def spIsRow (K : PySem.W.Frag) : Sp := fun vs H Q _ => ∃ (m : Nat) (v : V), vs = [.int m, v] ∧ m ≤ 1000 ∧ ((OddRow K H v ∧ ∀ H', Same H H' → Q (.bl false) H') ∨
  ∃ (a : Addr) (js : List Int), v = .ref a ∧ SqA H a (js.map V.int) ∧ js.length ≤ 1000 ∧ ∀ b H', (b = true ↔ js.Perm (nI (List.range m))) → Same H H' → Q (.bl b) H')
def spRowTold (K : PySem.W.Frag) (CB : Addr) : Sp := fun vs H Q E => ∃ (m : Nat) (v part : V), vs = [.int m, v, part] ∧ m ≤ 1000 ∧ ((OddRow K H v ∧ ∀ d H', ToldF H H' d [("part", part)] → E (.ref CB) (some d) H') ∨
  ∃ (a : Addr) (js : List Int), v = .ref a ∧ SqA H a (js.map V.int) ∧ js.length ≤ 1000 ∧ (¬ js.Perm (nI (List.range m)) → ∀ d H', ToldF H H' d [("part", part)] → E (.ref CB) (some d) H') ∧ (js.Perm (nI (List.range m)) → ∀ t H', Same H H' → H' t = some (.tup (js.map V.int)) → Q (.ref t) H'))
section
variable {P : Program} {w : World} {K : PySem.W.Frag} {mg : Str → Option Value} {base : Heap} {f CB : Addr} {fd : FuncData}
theorem scIsRow : FnScope ["many", "value"] ["many", "value"] (defScope sIsRow) := ⟨rfl, rfl, rfl, by decide +kernel, rfl, by decide +kernel, by decide +kernel⟩
theorem ok_isRow (G : Glob mg) (HI : HasAreInts P w K mg base) (F : DefAt K "is_row" "is_row" sIsRow f fd) : FnOk P w K mg base CX0 3 f fd ["many", "value"] (spIsRow K) := by
  obtain ⟨fi, fdi, mI, kI, bI, GI⟩ := HI.h
  refine okN F scIsRow (fun vs H Q E ⟨m, v, e, _⟩ => by rw [e]; rfl) (fun cdv A outer s H vs Q E hr ⟨m, v, e, m1000, h⟩ => ?_)
  subst e
  have hu64 : (A.deeper (envOfC "is_row" (defScope sIsRow) s.heap.objs.size f cdv)).units + 64 < cLine := by have := hr.un; omega
  refine ⟨_, pss_one (ps_ret (pe_and (pe_call GI hr rfl mI kI bI .nil pass0 (pa_cons (pv 1) pa_nil)) (pe_one (pe_cmpR (op_eqD hu64)
    (pe_callB cr_sortedI (by rfl) G.sorted (by decide +kernel) (pa_cons (pe_callTy call_list_of (by rfl) G.lst (by decide +kernel) (pa_cons (pv 1) pa_nil)) pa_nil))
    (pe_listRg rfl (by rfl) G.lst (prg_1 (by rfl) G.range (pv 0))) (nomark _))))), ?_⟩
  have sz : sizeLine = 16777216 := sizeLine_eq
  rcases h with ⟨bad, q⟩ | ⟨a, js, rfl, sq, lj, q⟩
  · rcases bad with ns | ⟨a, xs, bs, rfl, sq, l, ib, al⟩
    · exact ⟨_, rfl, v, rfl, .inl ⟨ns, fun H1 s1 => ⟨false, rfl, iteF (q H1 s1)⟩⟩⟩
    · exact ⟨_, rfl, _, rfl, .inr ⟨a, xs, bs, rfl, sq, l, ib, fun H1 s1 => ⟨false, by rw [al], iteF (q H1 s1)⟩⟩⟩
  refine ⟨_, rfl, _, rfl, .inr ⟨a, _, _, rfl, sq, by rw [List.length_map]; exact lj, IBs.ints js, fun H1 s1 => ⟨true, by simp, iteT ?_⟩⟩⟩
  refine ⟨_, rfl, a, _, rfl, (sq.same s1).imp SqL.of SqT.of, fun l nl => ?_⟩
  have s2 := upd_new (o := .lst (js.map V.int)) nl
  have hl : upd H1 l (.lst (js.map V.int)) l = some (.lst (js.map V.int)) := upd_same
  generalize upd H1 l (.lst (js.map V.int)) = H2 at s2 hl ⊢
  refine ⟨l, js, rfl, SqL.of hl, fun ms p pm srt np => ?_⟩
  have s3 := upd_new (o := .lst (ms.map V.int)) np
  have hp : upd H2 p (.lst (ms.map V.int)) p = some (.lst (ms.map V.int)) := upd_same
  generalize upd H2 p (.lst (ms.map V.int)) = H3 at s3 hp ⊢
  refine ⟨_, rfl, (m : Int), rfl, RgOk.of_le (by decide) (by omega) (by decide) (by omega), fun r nr => ?_⟩
  have s4 := upd_new (o := .lst (rgV 0 ((m : Nat) : Int))) nr
  have hr4 : upd H3 r (.lst (rgV 0 ((m : Nat) : Int))) r = some (.lst ((nI (List.range m)).map V.int)) := by rw [upd_same, rg0, kV_eq]
  refine ⟨.list (ms.map PyData.int), .list ((nI (List.range m)).map PyData.int), .lst (SqL.of (s4 _ _ hp)) (dps_I ms), .lst (SqL.of hr4) (dps_I _), sh_lI _, sh_lI _, ?_⟩
  refine q _ _ ?_ (((s1.trans s2).trans s3).trans s4)
  rw [PyData.eqv, eqvAll_map (f := PyData.int) (fun a b => by
    simp only [PyData.eqv]
    by_cases h : a = b
    · subst h; simp
    · simp [h]), decide_eq_true_iff]
  exact sorted_row pm srt
abbrev HasIsRow (P : Program) (w : World) (K : PySem.W.Frag) (mg : Str → Option Value) (base : Heap) : Prop := Has P w K mg base CX0 3 "is_row" ["many", "value"] (spIsRow K)
theorem scRowTold : FnScope ["many", "value", "part"] ["many", "value", "part"] (defScope sRowTold) := ⟨rfl, rfl, rfl, by decide +kernel, rfl, by decide +kernel, by decide +kernel⟩
theorem ok_rowTold (G : Glob mg) (HI : HasIsRow P w K mg base) (B : ErrR P w K mg base CB "BadRow" ["part"]) (F : DefAt K "row_told" "row_told" sRowTold f fd) : FnOk P w K mg base (L2.CX P w) 4 f fd ["many", "value", "part"] (spRowTold K CB) := by
  obtain ⟨fi, fdi, mI, kI, bI, GI⟩ := HI.h
  refine okX F scRowTold (fun vs H Q E ⟨m, v, part, e, _⟩ => by rw [e]; rfl) (fun cdv A outer s H vs Q E hr ⟨m, v, part, e, m1000, h⟩ => ?_)
  subst e
  have tk : Takes (cxOf (L2.CX P w) P w K mg base ["many", "value", "part"] "row_told" (defScope sRowTold) f cdv A outer s H E) (fun cls d _ H' => E cls d H') := takes_of rfl rfl rfl rfl
  refine ⟨_, pss_cons (ps_if (pt_not (pt_val (pe_call GI hr rfl mI kI bI .nil pass0 (pa_cons (pv 0) (pa_cons (pv 1) pa_nil))))) (pss_one (ps_rs B rfl tk (hr.mono (by decide)) (pa_cons (pv 2) pa_nil))) pss_nil)
    (pss_one (ps_ret (pe_callTy (r := rTupK K) (call_tupK rfl) (by rfl) G.tup (by decide +kernel) (pa_cons (pv 1) pa_nil)))), ?_⟩
  rcases h with ⟨bad, q⟩ | ⟨a, js, rfl, sq, lj, qB, qG⟩
  · refine ⟨_, rfl, _, rfl, m, v, rfl, m1000, .inl ⟨bad, fun H1 s1 => ⟨false, rfl, iteT ?_⟩⟩⟩
    exact rs_v (i := 2) (D := dR) rfl fun d H' t => q d H' (t.from s1)
  · refine ⟨_, rfl, _, rfl, m, _, rfl, m1000, .inr ⟨a, js, rfl, sq, lj, fun b H1 hb s1 => ⟨b, rfl, ?_⟩⟩⟩
    cases b with
    | false =>
      refine iteT ?_
      exact rs_v (i := 2) (D := dR) rfl fun d H' t => qB (fun z => nomatch hb.mpr z) d H' (t.from s1)
    | true =>
      refine iteF ⟨_, rfl, ?_⟩
      dsimp only [tNil]
      exact tup_any (sq.same s1) fun t H2 s2 h2 => qG (hb.mp rfl) t H2 (s1.trans s2) h2
end
end K5

/-! k44: _above_road. -/
namespace K5
open PySem PySem.Spec PyProof.Rows L2 LamX K1 K18 K4

/-- x op y of one's own -/
structure OpO (P : Program) (w : World) (K : PySem.W.Frag) (mg : Str → Option Value) (base : Heap) (C : Addr) (op : Operator) (k : Nat) (sp : Sp) : Prop where
  o : Own P w K mg base C CX0 k (PySem.dunder op.info.2) ["self", "other"] sp
  sf : PySem.W.selfFirst K C = true
  nr : PySem.W.findIn K (.ref C) (dunderR op.info.2) = some none
/-- an int at its right -/
structure IntR (K : PySem.W.Frag) (C : Addr) (op : Operator) : Prop where
  h : ∃ fo ro, PySem.W.findIn K (.type "int") (PySem.dunder op.info.2) = some fo ∧ PySem.W.findIn K (.type "int") (dunderR op.info.2) = some ro ∧ PySem.W.subIn K (.type "int") (.ref C) = some false
structure AlongZ (P : Program) (w : World) (K : PySem.W.Frag) (mg : Str → Option Value) (base : Heap) (C CH CS : Addr) : Prop where
  h : ∃ f fd, mg "along" = some (.ref f) ∧ PySem.W.keepIn K (.ref f) = true ∧ Binds K fd ["swap", "numbers"] [] ∧ ∀ pl, FnZ P w K mg base 8 f fd ["swap", "numbers"] (FZi pl) (spAlZ C CH CS pl)
structure NetM (P : Program) (w : World) (K : PySem.W.Frag) (mg : Str → Option Value) (base : Heap) (C CH CS CN : Addr) : Prop where
  h : ∃ f fd, Meth K CS "net" f ∧ Binds K fd ["self", "name"] [] ∧ FnOk P w K mg base (L2.CX P w) 4 f fd ["self", "name"] (spNet K C CH CS CN)
theorem fs_no {x : Str} (p h n : Addr) (h1 : ¬ (("strangers" : Str) = x)) (h2 : ¬ (("hands" : Str) = x)) (h3 : ¬ (("nets" : Str) = x)) : (fsS p h n).lookup x = none := by
  unfold fsS fs2 fs1
  rw [lookup_putF, if_neg (Ne.symm h3), lookup_putF, if_neg (Ne.symm h2), lookup_putF, if_neg (Ne.symm h1)]
  rfl
/-- how far a moment stands above the even road, its top over dZ -/
def dZ (L : Nat) : Int := 6 * (6 * 1 * (L : Int))
def abZ (hs : List Hnd) (ks : List Nat) (n : Str) (t : Nat) : Int := effs hs (ks.take t) n * (6 * 1 * (ks.length : Int)) - (net hs n * (t : Int) * 1) * 6
def absZ (hs : List Hnd) (ks : List Nat) (n : Str) : List Int := (List.range ks.length).map (abZ hs ks n)
/-- small enough -/
def HnSm (hs : List Hnd) : Prop := ∀ h ∈ hs, ∀ n, (h.eff n).natAbs < 2 ^ 20
theorem frc_upd {C : Addr} {H : Hp} {a D : Addr} {n d : Int} {xs : List V} {u : HO} (hd : H D = some (.lst xs)) (h : Frc C H a n d) : Frc C (upd H D u) a n d := by
  obtain ⟨dx, z⟩ := h
  exact ⟨dx, by rw [upd_ne (ne_of z hd (fun z => nomatch z))]; exact z⟩
theorem sum_bd {α : Type} (f : α → Int) {B : Nat} : ∀ l : List α, (∀ x ∈ l, (f x).natAbs ≤ B) → (l.map f).sum.natAbs ≤ l.length * B
  | [], _ => by simp
  | a :: l, h => by
    have h1 := h a List.mem_cons_self
    have h2 := sum_bd f l fun x hx => h x (List.mem_cons_of_mem _ hx)
    rw [List.map_cons, List.sum_cons, List.length_cons, Nat.succ_mul]
    omega
theorem effs_small {hs : List Hnd} (sm : HnSm hs) {l : List Nat} (h : l.length ≤ 50) (n : Str) : (effs hs l n).natAbs < 2 ^ 26 := by
  unfold effs
  refine Nat.lt_of_le_of_lt (sum_bd (B := 2 ^ 20) _ l fun k _ => ?_) (Nat.lt_of_le_of_lt (Nat.mul_le_mul_right _ h) (by decide))
  cases e : hs[k]? with
  | none => simp
  | some x => exact Nat.le_of_lt (sm x (List.mem_of_getElem? e) n)
theorem net_small {hs : List Hnd} (sm : HnSm hs) (h : hs.length ≤ 50) (n : Str) : (net hs n).natAbs < 2 ^ 26 := by
  unfold net
  refine Nat.lt_of_le_of_lt (sum_bd (B := 2 ^ 20) _ _ fun x hx => Nat.le_of_lt (sm x (List.mem_filter.mp hx).1 n)) (Nat.lt_of_le_of_lt (Nat.mul_le_mul_right _ (Nat.le_trans (List.length_filter_le _ _) h)) (by decide))
/-- no row of m -/
def BadRowV (K : PySem.W.Frag) (H : Hp) (m : Nat) (v : V) : Prop := OddRow K H v ∨ ∃ (b : Addr) (js : List Int), v = .ref b ∧ SqA H b (js.map V.int) ∧ js.length ≤ 1000 ∧ ¬ js.Perm (nI (List.range m))
/-- the row, a tuple; the distances, a list -/
def AboveAt (C : Addr) (H : Hp) (t : Addr) (hs : List Hnd) (ks : List Nat) (n : Str) : Prop := ∃ tt ab as, H t = some (.tup [.ref tt, .ref ab]) ∧ H tt = some (.tup (kV ks)) ∧ H ab = some (.lst (as.map V.ref)) ∧ All2 (fun a z => Frc C H a z (dZ ks.length)) as (absZ hs ks n)
/-- what they raise; what they do else -/
def AskW (K : PySem.W.Frag) (C CH CS CW CB CN CL : Addr) (u v x : V) (H : Hp) (E : XK) (good : Addr → List Str → List Hnd → List Nat → Str → Prop) : Prop :=
  (NotSw K CS H u ∧ ∀ d H', ToldF H H' d [("part", .str "swap")] → E (.ref CW) (some d) H') ∨
  ∃ a ns hs, u = .ref a ∧ SwAt C CH CS H a ns hs ∧ SwOk ns hs ∧ HnSm hs ∧ hs.length ≤ 50 ∧ ((BadRowV K H hs.length v ∧ ∀ d H', ToldF H H' d [("part", .str "row")] → E (.ref CB) (some d) H') ∨
    ∃ b ks, v = .ref b ∧ SqA H b (kV ks) ∧ ks.Perm (List.range hs.length) ∧ StrW K CN ns x H E fun n => (net hs n < 0 ∧ ∀ d H', ToldF H H' d [("name", .str n)] → E (.ref CL) (some d) H') ∨ (0 ≤ net hs n ∧ good a ns hs ks n))
def spAbove (K : PySem.W.Frag) (C CH CS CW CB CN CL : Addr) : Sp := fun vs H Q E => ∃ u v x, vs = [u, v, x] ∧ AskW K C CH CS CW CB CN CL u v x H E fun a ns hs ks n => ∀ t H', Same H H' → AboveAt C H' t hs ks n → Q (.ref t) H'
section
variable {P : Program} {w : World} {K : PySem.W.Frag} {mg : Str → Option Value} {base : Heap} {f C CH CS CW CB CD CI CT CU CM CN CL : Addr} {fd : FuncData}
abbrev HasRowTold (P : Program) (w : World) (K : PySem.W.Frag) (mg : Str → Option Value) (base : Heap) (CB : Addr) : Prop := Has P w K mg base (L2.CX P w) 4 "row_told" ["many", "value", "part"] (spRowTold K CB)
abbrev nAbove : List Str := ["swap", "row", "name", "told", "net", "place", "totals", "line", "moment"]
theorem scAbove : FnScope nAbove ["swap", "row", "name"] (defScope sAbove) := ⟨rfl, rfl, rfl, by decide +kernel, rfl, by decide +kernel, by decide +kernel⟩
theorem ok_above (G : Glob mg) (R : RatF K C) (RS : SwapF K CS) (HC : HasCheck P w K mg base C CH CS CW) (HR : HasRowTold P w K mg base CB) (HS : HasStranger P w K mg base C CH CS CN) (NM : NetM P w K mg base C CH CS CN) (RM : RatM P w K mg base C) (BL : ErrR P w K mg base CL "Loser" ["name"])
    (AZ : AlongZ P w K mg base C CH CS) (OS : OpO P w K mg base C .Sub 5 (spSubF C)) (OM : OpO P w K mg base C .Mult 5 (spMulF C)) (IM : IntR K C .Mult) (MO : Met1 P w K mg base C "over" 5 (spOverF C)) (F : DefAt K "_above_road" "_above_road" sAbove f fd) :
    FnOk P w K mg base (L2.CX P w) 10 f fd ["swap", "row", "name"] (spAbove K C CH CS CW CB CN CL) := by
  obtain ⟨fc, fdc, mC, kC, bC, GC⟩ := HC.h
  obtain ⟨fr, fdr, mR, kR, bR, GR⟩ := HR.h
  obtain ⟨fs_, fds, mS, kS, bS, GS⟩ := HS.h
  obtain ⟨fn, fdn, Mn, bN, GN⟩ := NM.h
  obtain ⟨pg, fg, fdg, PG_, bG, GG⟩ := RM.sign
  obtain ⟨fa, fda, mA, kA, bA, GA⟩ := AZ.h
  obtain ⟨fo, fdo, MS, bO, GO⟩ := OS.o.h
  obtain ⟨fm, fdm, MM, bM, GM⟩ := OM.o.h
  obtain ⟨fv, fdv, MV, bV, GV⟩ := MO.h
  refine okX F scAbove (fun vs H Q E ⟨u, v, x, e, _⟩ => by rw [e]; rfl) (fun cdv A outer s H vs Q E hr ⟨u, v, x, e, h⟩ => ?_)
  subst e
  have tk : Takes (cxOf (L2.CX P w) P w K mg base nAbove "_above_road" (defScope sAbove) f cdv A outer s H E) (fun cls d _ H' => E cls d H') := takes_of rfl rfl rfl rfl
  have ps := passes_call tk (E := E) fun _ _ _ _ z => z
  refine ⟨_, pss_cons (ps_expr (pe_call GC (hr.mono (by decide)) rfl mC kC bC .nil ps (pa_cons (pv 0) pa_nil)))
    (pss_cons (ps_set (i := 3) scAbove.nd rfl (Or.inr rfl) (pe_call GR (hr.mono (by decide)) rfl mR kR bR .nil ps (pa_cons (pe_callB (r := rLenA K) (call_lenA rfl) (by rfl) G.len PySem.boot_len (pa_cons (pe_fld (pv 0) rfl) pa_nil)) (pa_cons (pv 1) (pa_cons pe_str pa_nil)))))
    (pss_cons (ps_expr (pe_call GS (hr.mono (by decide)) rfl mS kS bS .nil ps (pa_cons (pv 0) (pa_cons (pv 2) pa_nil))))
    (pss_cons (ps_set (i := 4) scAbove.nd rfl (Or.inr rfl) (pe_meth (pv 0) RS.cl Mn GN (hr.mono (by decide)) bN .nil ps (pa_cons (pv 2) pa_nil)))
    (pss_cons (ps_if (pt_cmpR op_lt (pe_prop (pv 4) R.cl PG_ GG (hr.mono (by decide)) bG .nil pass0 rfl) pe_int (nomark _)) (pss_one (ps_rs BL rfl tk (hr.mono (by decide)) (pa_cons (pv 2) pa_nil))) pss_nil)
    (pss_cons (ps_set (i := 5) scAbove.nd rfl (Or.inr rfl) (pe_mG ty_tup PySem.F.plainAttrs_tuple PySem.F.slot_tuple_index PySem.F.type_tuple_index mt_tup_index (pe_fld (pv 0) rfl) (pa_cons (pv 2) pa_nil)))
    (pss_cons (ps_set (i := 6) scAbove.nd rfl (Or.inr rfl) (pe_lcZ (k := 8) (own := [("line", 7)]) (j := 5) (tg := fun pl => tCallG (spAlZ C CH CS pl) [] E0 (tCons (tVar 0) (tCons (tVar 3) tNil))) rfl hr scAbove.nd
        (fun pl => pgz_call (GA pl) (hr.mono (by decide)) rfl mA kA bA .nil (pa_cons (pv 0) (pa_cons (pv 3) pa_nil))) (blkOk_by (N := nAbove) (sc := defScope sAbove) (by decide +kernel)) (by decide +kernel) (fun _ _ => rfl) rfl rfl rfl (fun _ _ => .inl rfl) (by decide +kernel) (by decide +kernel) (by decide +kernel)))
    (pss_one (ps_ret (pe_tup (pa_cons (pv 3) (pa_cons
      (pe_lc (own := [("moment", 8)]) (g := gName 8) (tt := tYes) rfl scAbove.nd (pi_range1 (by rfl) G.range (pa_cons (pe_callB (r := rLenA K) (call_lenA rfl) (by rfl) G.len PySem.boot_len (pa_cons (pv 3) pa_nil)) pa_nil)) (blkOk_by (N := nAbove) (sc := defScope sAbove) (by decide +kernel))
        (fun _ _ _ _ _ => pg_name (i := 8) scAbove.nd rfl (Or.inl rfl)) (fun _ _ _ _ _ => pts_nil)
        (fun _ _ _ _ _ => pe_op (r := rOwn K C .Sub (spSubF C) E0) (op_own (op := .Sub) (E := E0) MS OS.sf OS.nr GO (hr.mono (by decide)) bO pass0) (pe_ix (r := rIxL K) ix_list (pv 6) (pv 8) (fun _ _ => rfl))
          (pe_meth (E := E0) (pe_op (r := rOwn K C .Mult (spMulF C) E0) (op_own (op := .Mult) (E := E0) MM OM.sf OM.nr GM (hr.mono (by decide)) bM pass0) (pv 4) (pv 8)) R.cl MV GV (hr.mono (by decide)) bV .nil pass0 (pa_cons (pe_callB (r := rLenA K) (call_lenA rfl) (by rfl) G.len PySem.boot_len (pa_cons (pv 3) pa_nil)) pa_nil)))) pa_nil))))))))))), ?_⟩
  have sz : sizeLine = 16777216 := sizeLine_eq
  rcases h with ⟨nt, q⟩ | ⟨a, ns, hs, rfl, ha, ok, sm, l50, h⟩
  · exact ⟨_, rfl, u, rfl, .inr ⟨nt, q⟩⟩
  obtain ⟨dx, pp, ph, pq, as, nas, h1, h2, h3, h4, h5, h6⟩ := id ha
  have las : (as.map V.ref).length = hs.length := by rw [List.length_map, h4.1]
  refine ⟨_, rfl, _, rfl, .inl ⟨a, ns, hs, rfl, ha, ?_⟩⟩
  refine ⟨_, rfl, a, CS, dx, _, _, rfl, h1, RS.cl, RS.nH, fs_h _ _ _, ph, as.map V.ref, rfl, .inr (SqT.of h3), _, rfl, hs.length, v, .str "row", by rw [las]; rfl, by omega, ?_⟩
  rcases h with ⟨bad, q⟩ | ⟨b, ks, rfl, sq, pm, hw⟩
  · rcases bad with od | ⟨b, js, rfl, sq, lj, np⟩
    · exact .inl ⟨od, q⟩
    · exact .inr ⟨b, js, rfl, sq, lj, fun _ => q, fun z => absurd z np⟩
  have lk := pm.length_eq
  rw [List.length_range] at lk
  refine .inr ⟨b, nI ks, rfl, by rw [← kV_eq]; exact sq, by rw [List.length_map]; omega, fun np => absurd (nI_perm pm) np, fun _ t H1 s1 ht => ?_⟩
  rw [← kV_eq] at ht
  have ha1 := ha.same s1
  refine ⟨_, rfl, _, rfl, a, x, ns, hs, rfl, ha1, hw.goM s1 fun n ex mem hn H2 s2 => ?_⟩
  subst ex
  have ha2 := ha1.same s2
  refine ⟨_, rfl, a, dx, _, rfl, s2 _ _ (s1 _ _ h1), fs_no _ _ _ (by decide +kernel) (by decide +kernel) (by decide +kernel), _, rfl, a, .str n, ns, hs, rfl, ha2, ok.nd, .inl ⟨n, rfl, ok.nm n mem, mem, fun p H3 s3 hp => ?_⟩⟩
  have s13 := (s1.trans s2).trans s3
  have ha3 := ha2.same s3
  obtain ⟨dn, hpn⟩ := id hp
  obtain ⟨j, ej⟩ := List.mem_iff_getElem?.mp mem
  have lj := (List.getElem?_eq_some_iff.mp ej).1
  have n6 := ok.n6
  refine ⟨_, rfl, p, dn, _, rfl, hpn, p, net hs n, rfl, hp, _, _, rfl, rfl, decide ((if net hs n = 0 then 0 else if net hs n > 0 then 1 else -1 : Int) < 0), rfl, ?_⟩
  rcases hn with ⟨neg, q⟩ | ⟨pos, q⟩
  · rw [decide_eq_true (by rw [if_neg (by omega), if_neg (by omega)]; decide)]
    exact iteT (rs_v (i := 2) (D := dR) rfl fun d H' t => q d H' (t.from s13))
  rw [decide_eq_false (by split <;> (try split) <;> omega)]
  refine iteF ?_
  have h13 := s13 _ _ h1
  have h23 := h2.same s13
  refine ⟨_, rfl, a, CS, dx, _, _, rfl, h13, RS.cl, RS.nS, fs_s _ _ _, ⟨pp, _, rfl, h23⟩, _, rfl, pp, ns, n, j, rfl, rfl, h23.sq, ej, fun m hm em => ?_, ?_⟩
  · exact absurd (K2nd ok.nd em ej) (by omega)
  have ht3 := s3 _ _ (s2 _ _ ht)
  refine ⟨j, rfl, by omega, _, rfl, _, rfl, a, t, ns, hs, ks, n, rfl, ha3, fun h hm => (ok.hk h hm).1, l50, n6, ej, .inr ht3, pm, fun qs H4 s4 al D nD => ?_⟩
  have s5 := upd_new (o := .lst (qs.map V.ref)) nD
  have hD5 : upd H4 D (.lst (qs.map V.ref)) D = some (.lst (qs.map V.ref)) := upd_same
  replace al := al.mono fun u v z => Six.same s5 z
  generalize upd H4 D (.lst (qs.map V.ref)) = H5 at s5 hD5 al ⊢
  have s45 := s4.trans s5
  have ht5 := s45 _ _ ht3
  have hp5 := hp.same s45
  refine ⟨_, rfl, _, rfl, t, _, rfl, .inr (SqT.of ht5), (ks.length : Int), by rw [kV_len], by omega, by omega, fun D2 hD2 => ?_⟩
  refine lc_range (lo := 0) (n := ((ks.length : Nat) : Int).toNat) (fun i H6 => Same H5 H6 ∧ ∃ as, H6 D2 = some (.lst (as.map V.ref)) ∧ All2 (fun a z => Frc C H6 a z (dZ ks.length)) as ((absZ hs ks n).take i)) ⟨upd_new hD2, [], upd_same, .nil⟩ ?_ ?_
  · rintro i H6 hi ⟨s6, as6, hd6, al6⟩
    have hi2 : i < ks.length := by omega
    have z0 : (0 : Int) + (i : Nat) = (i : Nat) := by omega
    obtain ⟨qi, eqi, hqi⟩ := al.getR (y := effs hs (ks.take i) n) (i := i) (by unfold goes; rw [List.getElem?_map, List.getElem?_range (by omega)]; rfl)
    have hqi6 := hqi.same s6
    have hp6 := hp5.same s6
    obtain ⟨dq, eq6⟩ := id hqi6
    obtain ⟨dp, ep6⟩ := id hp6
    obtain ⟨fo, ro, f1, f2, f3⟩ := IM.h
    have be := effs_small sm (l := ks.take i) (by rw [List.length_take]; omega) n
    have bn := net_small sm l50 n
    have b1 : (net hs n * (i : Int)).natAbs < 2 ^ 45 := by
      rw [Int.natAbs_mul]
      exact Nat.lt_of_le_of_lt (Nat.mul_le_mul (Nat.le_of_lt bn) (show (i : Int).natAbs ≤ 50 by omega)) (by decide)
    refine ⟨rfl, yes_of ⟨_, rfl, _, rfl, D, _, (i : Int), .ref qi, rfl, by rw [z0], SqL.of (s6 _ _ hD5), atI_nat (by rw [List.getElem?_map, eqi]; rfl), ?_⟩⟩
    refine ⟨_, rfl, _, rfl, p, dp, _, rfl, ep6, .inr ⟨"int", fo, ro, .int _, f1, f2, f3⟩, p, _, net hs n, 6, (i : Int), 1, rfl, hp6.frc, .inr ⟨by rw [z0], rfl⟩, ⟨by omega, by decide, by decide⟩, ⟨by omega, by decide, by decide⟩, fun p7 H7 s7 np7 hp7 => ?_⟩
    obtain ⟨d7, ep7⟩ := id hp7
    refine ⟨p7, d7, _, rfl, ep7, no_over _ _, _, rfl, t, _, rfl, .inr (SqT.of (s7 _ _ (s6 _ _ ht5))), p7, _, net hs n * (i : Int), 6 * 1, (ks.length : Int), 1, rfl, hp7, .inr ⟨by rw [kV_len], rfl⟩, ⟨b1, by decide, by decide⟩, ⟨by omega, by decide, by decide⟩, by omega, fun p8 H8 s8 np8 hp8 => ?_⟩
    obtain ⟨d8, ep8⟩ := id hp8
    have s78 := s7.trans s8
    have hqi8 := hqi6.same s78
    obtain ⟨dq8, eq8⟩ := id hqi8
    have b2 : (net hs n * (i : Int) * 1).natAbs < 2 ^ 45 := by rw [Int.mul_one]; exact b1
    refine ⟨qi, dq8, _, rfl, eq8, .inl ⟨p8, d8, _, rfl, ep8⟩, qi, _, _, 6, _, _, rfl, hqi8.frc, .inl ⟨p8, rfl, hp8⟩, ⟨by omega, by decide, by decide⟩, ⟨b2, by omega, by omega⟩, fun p9 H9 s9 np9 hp9 => ?_⟩
    have s69 := s78.trans s9
    have az : (absZ hs ks n)[i]? = some (abZ hs ks n i) := by unfold absZ; rw [List.getElem?_map, List.getElem?_range hi2]; rfl
    have hd9 := s69 _ _ hd6
    have las6 := al6.1
    rw [List.length_take] at las6
    refine ⟨_, hd9, by rw [List.length_map]; omega, same_upd hD2 (s6.trans s69), as6 ++ [p9], by rw [upd_same, List.map_append]; rfl, ?_⟩
    rw [take_more az]
    exact All2.snoc (al6.mono fun u v z => frc_upd hd9 (z.same s69)) (frc_upd hd9 hp9)
  · rintro H6 ⟨s6, as6, hd6, al6⟩
    rw [Int.toNat_natCast, List.take_of_length_le (by unfold absZ; rw [List.length_map, List.length_range]; exact Nat.le_refl _)] at al6
    refine ⟨(by show 2 ≤ sizeLine; omega), fun r nr => ?_⟩
    have s7 := upd_new (o := .tup [V.ref t, .ref D2]) nr
    refine q r _ (((s13.trans s45).trans s6).trans s7) ⟨t, D2, as6, upd_same, s7 _ _ (s6 _ _ ht5), s7 _ _ hd6, al6.mono fun u v z => z.same s7⟩
end
end K5

/-! k05: the law's rows, worths, hand-overs. -/
namespace K5
open PySem PySem.Spec PyProof.Rows L2 LamX K1 K18

/-- a row: who gives, who takes, the worths in sixths -/
structure Row where
  g : Nat
  t : Nat
  c : Int
  d : Int
  deriving DecidableEq
def rV (r : Row) : List V := [.int r.g, .int r.t, .int r.c, .int r.d]
structure RwOk (m : Nat) (r : Row) : Prop where
  g : r.g < m
  t : r.t < m
  ne : r.g ≠ r.t
  c0 : 0 ≤ r.c
  d0 : 0 ≤ r.d
  cs : r.c.natAbs < 2 ^ 50
  ds : r.d.natAbs < 2 ^ 50
def RwAt (H : Hp) (a : Addr) (r : Row) : Prop := H a = some (.tup (rV r))
/-- a list of rows -/
def RwL (H : Hp) (d : Addr) (rs : List Row) : Prop := ∃ as, H d = some (.lst (as.map V.ref)) ∧ All2 (RwAt H) as rs
theorem RwL.same {H H' : Hp} {d : Addr} {rs : List Row} (s : Same H H') (h : RwL H d rs) : RwL H' d rs := let ⟨as, a, b⟩ := h; ⟨as, s _ _ a, b.mono fun _ _ z => s _ _ z⟩
/-- the pen's list changes: nothing of these -/
theorem RwL.keep {H H' : Hp} {d p c : Addr} {n : Nat} {rs : List Row} (pn : Pen H p c n) (dp : d ≠ p) (k : Keep p H H') (h : RwL H d rs) : RwL H' d rs := by
  obtain ⟨as, a, b⟩ := h
  obtain ⟨cs, t, r, x, _⟩ := pn
  exact ⟨as, k _ _ dp a, b.mono fun u v z => k _ _ (ne_of z x (fun z => nomatch z)) z⟩
theorem Six.keepP {C : Addr} {H H' : Hp} {a p c : Addr} {n : Nat} {s : Int} (pn : Pen H p c n) (k : Keep p H H') (h : Six C H a s) : Six C H' a s := by
  obtain ⟨cs, t, r, x, _⟩ := pn
  obtain ⟨dx, z⟩ := h
  exact ⟨dx, k _ _ (ne_of z x (fun z => nomatch z)) z⟩
theorem SixV.keepP {C : Addr} {H H' : Hp} {v : V} {p c : Addr} {n : Nat} {s : Int} (pn : Pen H p c n) (k : Keep p H H') (h : SixV C H v s) : SixV C H' v s := h.imp (fun ⟨a, e, z⟩ => ⟨a, e, Six.keepP pn k z⟩) id
theorem HandAt.keepP {C CH : Addr} {H H' : Hp} {a p c : Addr} {n : Nat} {h : Hnd} (pn : Pen H p c n) (k : Keep p H H') (z : HandAt C CH H a h) : HandAt C CH H' a h := by
  obtain ⟨dx, pc, pd, z1, z2, z3⟩ := z
  obtain ⟨cs, t, r, x, _⟩ := id pn
  exact ⟨dx, pc, pd, k _ _ (ne_of z1 x (fun z => nomatch z)) z1, Six.keepP pn k z2, Six.keepP pn k z3⟩
/-- a value set, whichever it is -/
theorem seq_any {te : TE} {k : Nat} {T : TS} {D : Ends} {σ : L2.St} {H : Hp} (R : V → Hp → Prop) (val : ∀ Q : VK, (∀ v H', R v H' → Q v H') → te σ H Q) (go : ∀ v H', R v H' → T D (σ.set k (some v)) H') : tSeq (tAsg te (gName k)) T D σ H := val _ go
end K5

/-! k44: _law_drawn. -/
namespace K5
open PySem PySem.Spec PyProof.Rows L2 LamX K1 K18

theorem cut_n {xs : List V} (n : Nat) : cutV xs none (some (n : Int)) = xs.take n := by
  unfold cutV
  rw [HT.sIx_none, HT.sIx_nat, List.drop_zero, Nat.sub_zero]
  rcases Nat.le_total n xs.length with h | h
  · rw [Nat.min_eq_left h]
  · rw [Nat.min_eq_right h, List.take_of_length_le (Nat.le_refl _), List.take_of_length_le h]
theorem theKeep' {p : Addr} {H H' : Hp} (s : Same H H') : Keep p H H' := theKeep s
/-- the names the law takes from -/
def nmA : List Str := ["t", "s", "r", "q", "p", "o"]
def nmB : List Str := ["weathervane2", "weathervane1", "ab", "a", "weathervane", "b"]
/-- the first j of them -/
structure Nms (ns : List Str) : Prop where
  h : ∃ j, 2 ≤ j ∧ j ≤ 6 ∧ (ns = nmA.take j ∨ ns = nmB.take j)
def spDrawn : Sp := fun vs H Q _ => ∃ (p c : Addr) (n : Nat), vs = [.ref p] ∧ Pen H p c n ∧ n + 60 < 100000 ∧ ∀ (t nm hw : Addr) (ns : List Str) (u : Nat) (rs : List Row) (H' : Hp), Keep p H H' → Pen H' p c (n + 60) → H' t = some (.tup [.ref nm, .int u, .ref hw]) →
  H' nm = some (.lst (ns.map V.str)) → nm ≠ p → hw ≠ p → Nms ns → 1 ≤ u → u ≤ 3 → RwL H' hw rs → (∀ r ∈ rs, RwOk ns.length r ∧ r.c < 10 ∧ r.d < 20) → rs.length ≤ 6 → Q (.ref t) H'
section
variable {P : Program} {w : World} {K : PySem.W.Frag} {mg : Str → Option Value} {base : Heap} {f : Addr} {fd : FuncData}
abbrev nDrawn : List Str := ["_law_vane_here", "_law_names", "_law_hands", "_law_kind", "_law_turn", "_law_giver", "_law_taker", "_law_cost", "_law_other"]
theorem scDrawn : FnScope nDrawn ["_law_vane_here"] (defScope sDrawn) := ⟨rfl, rfl, rfl, by decide +kernel, rfl, by decide +kernel, by decide +kernel⟩
theorem ok_drawn (G : Glob mg) (HT : HasBlow P w K mg base) (HP : HasSome P w K mg base) (F : DefAt K "_law_drawn" "_law_drawn" sDrawn f fd) : FnOk P w K mg base CX0 3 f fd ["_law_vane_here"] spDrawn := by
  obtain ⟨ft, fdt, mT, kT, bT, GT⟩ := HT.h
  obtain ⟨fp, fdp, mP, kP_, bP, GP⟩ := HP.h
  refine okN F scDrawn (fun vs H Q E ⟨p, c, n, e, _⟩ => by rw [e]; rfl) (fun cdv A outer s H vs Q E hr ⟨p, c, n, e, pn, hn, q⟩ => ?_)
  subst e
  have r1 := hr.mono (show 1 ≤ 2 by decide)
  refine ⟨_, pss_cons (ps_set (i := 1) scDrawn.nd rfl (Or.inl rfl) (pe_call GP hr rfl mP kP_ bP .nil pass0 (pa_cons (pv 0) (pa_cons (pe_lst (pa_cons (pe_lst (pa_cons pe_str (pa_cons pe_str (pa_cons pe_str (pa_cons pe_str (pa_cons pe_str (pa_cons pe_str pa_nil))))))) (pa_cons (pe_lst (pa_cons pe_str (pa_cons pe_str (pa_cons pe_str (pa_cons pe_str (pa_cons pe_str (pa_cons pe_str pa_nil))))))) pa_nil))) pa_nil))))
    (pss_cons (ps_par3 (i := 1) (j := 2) (l := 3) (by rfl) scDrawn.nd rfl rfl rfl (by decide) (by decide) (by decide) rfl rfl rfl (pa_cons (pe_slice sl_list (pv 1) po_none (po_some (pe_call GP hr rfl mP kP_ bP .nil pass0 (pa_cons (pv 0) (pa_cons (pe_lst (pa_cons pe_int (pa_cons pe_int (pa_cons pe_int (pa_cons pe_int (pa_cons pe_int (pa_cons pe_int (pa_cons pe_int pa_nil)))))))) pa_nil)))))
        (pa_cons (pe_lst pa_nil) (pa_cons (pe_call GT r1 rfl mT kT bT .nil pass0 (pa_cons (pv 0) (pa_cons pe_int pa_nil))) pa_nil))) (by rfl))
    (pss_cons (ps_for PassesOwn.never rfl (pi_range1 (by rfl) G.range (pa_cons (pe_call GP hr rfl mP kP_ bP .nil pass0 (pa_cons (pv 0) (pa_cons (pe_lst (pa_cons pe_int (pa_cons pe_int (pa_cons pe_int (pa_cons pe_int (pa_cons pe_int (pa_cons pe_int (pa_cons pe_int pa_nil)))))))) pa_nil))) pa_nil)) (pg_name (i := 4) scDrawn.nd rfl (Or.inl rfl))
      (pss_cons (ps_set (i := 5) scDrawn.nd rfl (Or.inl rfl) (pe_call GT r1 rfl mT kT bT .nil pass0 (pa_cons (pv 0) (pa_cons (pe_callB (r := rLenA K) (call_lenA rfl) (by rfl) G.len PySem.boot_len (pa_cons (pv 1) pa_nil)) pa_nil))))
      (pss_cons (ps_set (i := 6) scDrawn.nd rfl (Or.inl rfl) (pe_op op_mod (pe_callTy call_int1 (by rfl) G.int (by decide +kernel) (pa_cons (pe_op op_add (pe_op op_add (pv 5) pe_int) (pe_call GT r1 rfl mT kT bT .nil pass0 (pa_cons (pv 0) (pa_cons (pe_op op_sub (pe_callB (r := rLenA K) (call_lenA rfl) (by rfl) G.len PySem.boot_len (pa_cons (pv 1) pa_nil)) pe_int) pa_nil)))) pa_nil))
          (pe_callB (r := rLenA K) (call_lenA rfl) (by rfl) G.len PySem.boot_len (pa_cons (pv 1) pa_nil))))
      (pss_cons (ps_par (i := 7) (j := 8) (by rfl) scDrawn.nd rfl rfl (by decide) rfl rfl (pa_cons (pe_call GT r1 rfl mT kT bT .nil pass0 (pa_cons (pv 0) (pa_cons pe_int pa_nil))) (pa_cons (pe_call GT r1 rfl mT kT bT .nil pass0 (pa_cons (pv 0) (pa_cons pe_int pa_nil))) pa_nil)) (by rfl))
      (pss_one (ps_expr (pe_bm PySem.F.plainAttrs_list PySem.F.slot_list_append PySem.F.type_list_append mt_append (pv 2) (pa_cons (pe_tup (pa_cons (pv 5) (pa_cons (pv 6) (pa_cons (pv 7) (pa_cons (pe_ix ix_list (pe_lst (pa_cons (pv 7) (pa_cons (pe_op op_add (pv 7) (pv 8)) (pa_cons (pv 8) pa_nil)))) (pv 3) (fun _ _ => rfl)) pa_nil))))) pa_nil))))))))
    (pss_one (ps_ret (pe_tup (pa_cons (pv 1) (pa_cons (pe_op op_add pe_int (pe_call GT r1 rfl mT kT bT .nil pass0 (pa_cons (pv 0) (pa_cons pe_int pa_nil)))) (pa_cons (pv 2) pa_nil)))))))), ?_⟩
  have sz : sizeLine = 16777216 := sizeLine_eq
  -- the names
  refine seq_any (R := fun v H' => Keep p H H' ∧ Pen H' p c (n + 1) ∧ ∃ na bs, v = .ref na ∧ na ≠ p ∧ (bs = nmA ∨ bs = nmB) ∧ H' na = some (.lst (bs.map V.str))) (fun Q2 kq => ?_) ?_
  · refine ⟨_, rfl, (by show 6 ≤ sizeLine; omega), fun a1 n1 => ?_⟩
    have s1 := upd_new (o := .lst [V.str "t", V.str "s", V.str "r", V.str "q", V.str "p", V.str "o"]) n1
    have h1 : upd H a1 (.lst [V.str "t", V.str "s", V.str "r", V.str "q", V.str "p", V.str "o"]) a1 = some (.lst (nmA.map V.str)) := upd_same
    have p1 := (pn.ne n1).1.symm
    have pn1 := pn.same s1
    generalize upd H a1 (.lst [V.str "t", V.str "s", V.str "r", V.str "q", V.str "p", V.str "o"]) = H1 at s1 h1 pn1 ⊢
    refine ⟨(by show 6 ≤ sizeLine; omega), fun a2 n2 => ?_⟩
    have s2 := upd_new (o := .lst [V.str "weathervane2", V.str "weathervane1", V.str "ab", V.str "a", V.str "weathervane", V.str "b"]) n2
    have h2 : upd H1 a2 (.lst [V.str "weathervane2", V.str "weathervane1", V.str "ab", V.str "a", V.str "weathervane", V.str "b"]) a2 = some (.lst (nmB.map V.str)) := upd_same
    have p2 := (pn1.ne n2).1.symm
    have pn2 := pn1.same s2
    generalize upd H1 a2 (.lst [V.str "weathervane2", V.str "weathervane1", V.str "ab", V.str "a", V.str "weathervane", V.str "b"]) = H2 at s2 h2 pn2 ⊢
    refine ⟨(by show 2 ≤ sizeLine; omega), fun l nl => ?_⟩
    have s3 := upd_new (o := .lst [V.ref a1, .ref a2]) nl
    have h3 : upd H2 l (.lst [V.ref a1, .ref a2]) l = some (.lst [V.ref a1, .ref a2]) := upd_same
    have p3 := (pn2.ne nl).1.symm
    have pn3 := pn2.same s3
    refine ⟨p, c, l, _, _, rfl, .inl h3, p3, (by show 0 < 2; decide), (by show 2 < 1000; decide), pn3, by omega, fun i x H4 ex k4 pn4 => kq _ _ ⟨(theKeep ((s1.trans s2).trans s3)).trans k4, pn4, ?_⟩⟩
    match i, ex with
    | 0, ex => cases ex; exact ⟨a1, nmA, rfl, p1, .inl rfl, k4 _ _ p1 (s3 _ _ (s2 _ _ h1))⟩
    | 1, ex => cases ex; exact ⟨a2, nmB, rfl, p2, .inr rfl, k4 _ _ p2 (s3 _ _ h2)⟩
    | i + 2, ex => exact nomatch ex
  rintro _ H1 ⟨k1, pn1, na, bs, rfl, nap, hbs, hna⟩
  have lbs : bs.length = 6 := by rcases hbs with rfl | rfl <;> rfl
  -- cut, empty, kind
  refine ⟨_, rfl, _, rfl, (by show 7 ≤ sizeLine; omega), fun l2 nl2 => ?_⟩
  have s2 := upd_new (o := .lst [V.int 2, .int 3, .int 4, .int 2, .int 3, .int 5, .int 6]) nl2
  have hl2 : upd H1 l2 (.lst [V.int 2, .int 3, .int 4, .int 2, .int 3, .int 5, .int 6]) l2 = some (.lst [V.int 2, .int 3, .int 4, .int 2, .int 3, .int 5, .int 6]) := upd_same
  have lp2 := (pn1.ne nl2).1.symm
  have pn2 := pn1.same s2
  generalize upd H1 l2 (.lst [V.int 2, .int 3, .int 4, .int 2, .int 3, .int 5, .int 6]) = H2 at s2 hl2 pn2 ⊢
  refine ⟨p, c, l2, _, _, rfl, .inl hl2, lp2, (by show 0 < 7; decide), (by show 7 < 1000; decide), pn2, by omega, fun i x H3 ex k3 pn3 => ?_⟩
  obtain ⟨j, rfl, j2, j6⟩ : ∃ j : Nat, x = .int j ∧ 2 ≤ j ∧ j ≤ 6 := by
    match i, ex with
    | 0, ex => cases ex; exact ⟨2, rfl, by decide, by decide⟩
    | 1, ex => cases ex; exact ⟨3, rfl, by decide, by decide⟩
    | 2, ex => cases ex; exact ⟨4, rfl, by decide, by decide⟩
    | 3, ex => cases ex; exact ⟨2, rfl, by decide, by decide⟩
    | 4, ex => cases ex; exact ⟨3, rfl, by decide, by decide⟩
    | 5, ex => cases ex; exact ⟨5, rfl, by decide, by decide⟩
    | 6, ex => cases ex; exact ⟨6, rfl, by decide, by decide⟩
    | i + 7, ex => exact nomatch ex
  have hna3 := k3 _ _ nap (s2 _ _ hna)
  refine ⟨(j : Int), rfl, na, _, rfl, SqL.of hna3, fun nm nnm => ?_⟩
  rw [cut_n, ← List.map_take]
  obtain ⟨ns, ens⟩ : ∃ ns, ns = bs.take j := ⟨_, rfl⟩
  have nms : Nms ns := ⟨j, j2, j6, hbs.imp (fun h => by rw [ens, h]) fun h => by rw [ens, h]⟩
  have lns : ns.length = j := by rw [ens, List.length_take, lbs]; omega
  rw [← ens]
  have s4 := upd_new (o := .lst (ns.map V.str)) nnm
  have hnm : upd H3 nm (.lst (ns.map V.str)) nm = some (.lst (ns.map V.str)) := upd_same
  have nmp := (pn3.ne nnm).1.symm
  have pn4 := pn3.same s4
  generalize upd H3 nm (.lst (ns.map V.str)) = H4 at s4 hnm pn4 ⊢
  refine ⟨(by show 0 ≤ sizeLine; omega), fun hw nhw => ?_⟩
  have s5 := upd_new (o := .lst []) nhw
  have hhw : upd H4 hw (.lst []) hw = some (.lst []) := upd_same
  have hwp := (pn4.ne nhw).1.symm
  have hwc := (pn4.ne nhw).2
  have pn5 := pn4.same s5
  have nmhw : nm ≠ hw := ne_of_none hnm nhw
  have hnm5 := s5 _ _ hnm
  generalize upd H4 hw (.lst []) = H5 at s5 hhw pn5 hnm5 ⊢
  have k15 : Keep p H1 H5 := (theKeep s2).trans (k3.trans (theKeep (s4.trans s5)))
  refine ⟨_, rfl, p, c, 3, _, rfl, pn5, by omega, by decide, by decide, fun kd H6 kd0 kd3 k6 pn6 => ⟨_, _, _, rfl, ?_⟩⟩
  have hnm6 := k6 _ _ nmp hnm5
  have hhw6 := k6 _ _ hwp hhw
  -- the rows
  refine ⟨_, rfl, (by show 7 ≤ sizeLine; omega), fun l3 nl3 => ?_⟩
  have s7 := upd_new (o := .lst [V.int 5, .int 4, .int 6, .int 3, .int 2, .int 1, .int 0]) nl3
  have hl3 : upd H6 l3 (.lst [V.int 5, .int 4, .int 6, .int 3, .int 2, .int 1, .int 0]) l3 = some (.lst [V.int 5, .int 4, .int 6, .int 3, .int 2, .int 1, .int 0]) := upd_same
  have lp3 := (pn6.ne nl3).1.symm
  have pn7 := pn6.same s7
  generalize upd H6 l3 (.lst [V.int 5, .int 4, .int 6, .int 3, .int 2, .int 1, .int 0]) = H7 at s7 hl3 pn7 ⊢
  refine ⟨p, c, l3, _, _, rfl, .inl hl3, lp3, (by show 0 < 7; decide), (by show 7 < 1000; decide), pn7, by omega, fun i x H8 ex k8 pn8 => ?_⟩
  obtain ⟨tn, rfl, tn6⟩ : ∃ tn : Nat, x = .int tn ∧ tn ≤ 6 := by
    match i, ex with
    | 0, ex => cases ex; exact ⟨5, rfl, by decide⟩
    | 1, ex => cases ex; exact ⟨4, rfl, by decide⟩
    | 2, ex => cases ex; exact ⟨6, rfl, by decide⟩
    | 3, ex => cases ex; exact ⟨3, rfl, by decide⟩
    | 4, ex => cases ex; exact ⟨2, rfl, by decide⟩
    | 5, ex => cases ex; exact ⟨1, rfl, by decide⟩
    | 6, ex => cases ex; exact ⟨0, rfl, by decide⟩
    | i + 7, ex => exact nomatch ex
  have k68 : Keep p H6 H8 := (theKeep s7).trans k8
  have k18 : Keep p H1 H8 := k15.trans (k6.trans k68)
  have hhw8 := k68 _ _ hwp hhw6
  have hnm8 := k68 _ _ nmp hnm6
  have nhw1 : H1 hw = none := by
    cases e : H1 hw with
    | none => rfl
    | some o => rw [s4 _ _ (k3 _ _ hwp (s2 _ _ e))] at nhw; cases nhw
  refine ⟨(tn : Int), rfl, by omega, by omega, ?_⟩
  refine for_range (lo := 0) (n := (tn : Int).toNat) (fun i σ H9 => ∃ (rs : List Row) (z4 z5 z6 z7 z8 : Option V), σ = [some (V.ref p), some (.ref nm), some (.ref hw), some (.int kd), z4, z5, z6, z7, z8] ∧ rs.length = i ∧ (∀ r ∈ rs, RwOk ns.length r ∧ r.c < 10 ∧ r.d < 20) ∧ Keep p H1 H9 ∧ RwL H9 hw rs ∧ H9 nm = some (.lst (ns.map V.str)) ∧ Pen H9 p c (n + 4 + 4 * i))
    ⟨[], none, none, none, none, none, rfl, rfl, (fun r h => nomatch h), k18, ⟨[], hhw8, All2.nil⟩, hnm8, pn8⟩ ?_ ?_
  · rintro i σ H9 hi ⟨rs, z4, z5, z6, z7, z8, rfl, lrs, ok, k9, rw9, hnm9, pn9⟩
    have hik : i < tn := hi
    have lm : ((ns.map V.str).length : Int) = (j : Int) := by rw [List.length_map, lns]
    refine ⟨_, rfl, _, rfl, nm, _, rfl, .inl (SqL.of hnm9), p, c, _, _, rfl, pn9, by omega, by omega, by omega, fun g H10 g0 g1 k10 pn10 => ?_⟩
    have hnm10 := k10 _ _ nmp hnm9
    refine ⟨_, rfl, _, _, rfl, rfl, _, rfl, _, rfl, nm, _, rfl, .inl (SqL.of hnm10), _, _, rfl, rfl, p, c, _, _, rfl, pn10, by omega, by omega, by omega, fun u H11 u0 u1 k11 pn11 => ?_⟩
    have hnm11 := k11 _ _ nmp hnm10
    refine ⟨_, _, rfl, rfl, .inl ⟨_, rfl, _, rfl, nm, _, rfl, .inl (SqL.of hnm11), _, _, rfl, rfl, by omega, ?_⟩⟩
    have mpos : (0 : Int) < j := by omega
    rw [lm]
    have t0 := Int.emod_nonneg (g + 1 + u) (show (j : Int) ≠ 0 by omega)
    have t1 := Int.emod_lt_of_pos (g + 1 + u) mpos
    have tne : g ≠ (g + 1 + u) % (j : Int) := by
      intro e
      have := Int.emod_add_mul_ediv (g + 1 + u) (j : Int)
      rw [← e] at this
      have h1 : (j : Int) * ((g + 1 + u) / (j : Int)) = 1 + u := by omega
      rcases Int.lt_trichotomy ((g + 1 + u) / (j : Int)) 0 with z | z | z
      · have := Int.mul_le_mul_of_nonneg_left (show (g + 1 + u) / (j : Int) ≤ -1 by omega) (show (0 : Int) ≤ j by omega)
        omega
      · rw [z] at h1; omega
      · have := Int.mul_le_mul_of_nonneg_left (show 1 ≤ (g + 1 + u) / (j : Int) by omega) (show (0 : Int) ≤ j by omega)
        omega
    refine ⟨_, rfl, p, c, 10, _, rfl, pn11, by omega, by decide, by decide, fun cc H12 c0 c1 k12 pn12 => ⟨_, rfl, p, c, 10, _, rfl, pn12, by omega, by decide, by decide, fun oo H13 o0 o1 k13 pn13 => ⟨_, _, rfl, ?_⟩⟩⟩
    have k913 : Keep p H9 H13 := (k10.trans k11).trans (k12.trans k13)
    obtain ⟨as, hd13, al⟩ := rw9.keep pn9 hwp k913
    have hnm13 := k913 _ _ nmp hnm9
    obtain ⟨dd, edd, d0, d1⟩ : ∃ dd : Int, atI [V.int cc, .int (cc + oo), .int oo] kd = some (.int dd) ∧ 0 ≤ dd ∧ dd < 20 := by
      have : kd = 0 ∨ kd = 1 ∨ kd = 2 := by omega
      rcases this with rfl | rfl | rfl
      · exact ⟨cc, atI_nat (j := 0) rfl, c0, by omega⟩
      · exact ⟨cc + oo, atI_nat (j := 1) rfl, by omega, by omega⟩
      · exact ⟨oo, atI_nat (j := 2) rfl, o0, by omega⟩
    refine ⟨_, rfl, .inl ⟨rfl, _, SqL.of hd13⟩, _, rfl, _, rfl, _, rfl, _, rfl, _, rfl, _, rfl, _, _, rfl, rfl, _, rfl, (by show 3 ≤ sizeLine; omega), fun b nb => ?_⟩
    have sb := upd_new (o := .lst [V.int cc, .int (cc + oo), .int oo]) nb
    have hb : upd H13 b (.lst [V.int cc, .int (cc + oo), .int oo]) b = some (.lst [V.int cc, .int (cc + oo), .int oo]) := upd_same
    have pn14 := pn13.same sb
    generalize upd H13 b (.lst [V.int cc, .int (cc + oo), .int oo]) = H14 at sb hb pn14 ⊢
    refine ⟨_, rfl, b, _, _, _, rfl, rfl, SqL.of hb, edd, (by show 4 ≤ sizeLine; omega), fun a na => ?_⟩
    obtain ⟨g', rfl⟩ := Int.eq_ofNat_of_zero_le g0
    obtain ⟨t', et⟩ := Int.eq_ofNat_of_zero_le t0
    have sA := upd_new (o := .tup [.int g', .int ((g' + 1 + u) % (j : Int)), .int cc, .int dd]) na
    have eA : upd H14 a (.tup [.int g', .int ((g' + 1 + u) % (j : Int)), .int cc, .int dd]) a = some (.tup (rV ⟨g', t', cc, dd⟩)) := by
      rw [upd_same, et]; rfl
    generalize upd H14 a (.tup [.int g', .int ((g' + 1 + u) % (j : Int)), .int cc, .int dd]) = H15 at sA eA ⊢
    have s15 := sb.trans sA
    have hd15 := s15 _ _ hd13
    have las := al.1
    have ad : a ≠ hw := (ne_of_none (sb _ _ hd13) na).symm
    refine ⟨hw, as.map V.ref, .ref a, rfl, rfl, hd15, by rw [List.length_map]; omega, rs ++ [⟨g', t', cc, dd⟩], _, _, _, _, _, rfl, by simp [lrs], fun r hr => ?_, ?_, ⟨as ++ [a], by rw [upd_same, List.map_append]; rfl, ?_⟩, by rw [upd_ne nmhw]; exact s15 _ _ hnm13, ((pn13.same s15).upd (Ne.symm hwp) hwc).mono (by omega)⟩
    · rcases List.mem_append.mp hr with hr | hr
      · exact ok r hr
      · rw [List.mem_singleton.mp hr]
        exact ⟨⟨by show g' < ns.length; omega, by show t' < ns.length; omega, by show g' ≠ t'; omega, c0, d0, by show cc.natAbs < 2 ^ 50; omega, by show dd.natAbs < 2 ^ 50; omega⟩, c1, d1⟩
    · intro b' o nb' e
      rw [upd_ne (ne_of_none e nhw1)]
      exact s15 _ _ (k913 _ _ nb' (k9 _ _ nb' e))
    · exact (All2.snoc (al.mono fun x r z => by
        show upd _ _ _ _ = _
        rw [upd_ne (ne_of z hd13 (fun z => nomatch z))]
        exact s15 _ _ z) (by
        show upd _ _ _ _ = _
        rw [upd_ne ad]
        exact eA))
  rintro σ H9 ⟨rs, z4, z5, z6, z7, z8, rfl, lrs, ok, k9, rw9, hnm9, pn9⟩
  have ltn : rs.length = tn := lrs
  refine ⟨_, rfl, _, rfl, p, c, 3, _, rfl, pn9, by omega, by decide, by decide, fun u H10 u0 u1 k10 pn10 => ?_⟩
  obtain ⟨u', rfl⟩ := Int.eq_ofNat_of_zero_le u0
  refine ⟨_, _, rfl, rfl, _, rfl, (by show 3 ≤ sizeLine; omega), fun t nt => ?_⟩
  have s11 := upd_new (o := .tup [V.ref nm, .int (1 + (u' : Int)), .ref hw]) nt
  have ht : upd H10 t (.tup [V.ref nm, .int (1 + (u' : Int)), .ref hw]) t = some (.tup [.ref nm, .int ((1 + u' : Nat) : Int), .ref hw]) := by rw [upd_same]; rfl
  exact q t nm hw ns (1 + u') rs _ (k1.trans (k9.trans (k10.trans (theKeep s11)))) ((pn10.same s11).mono (by omega)) ht (s11 _ _ (k10 _ _ nmp hnm9)) nmp hwp nms (by omega) (by omega) ((rw9.keep pn9 hwp k10).same s11) ok (by omega)
end
end K5

/-! k05: the law's hand-overs, lines, backs. -/
namespace K5
open PySem PySem.Spec PyProof.Rows L2 LamX K1 K18

/-! ### rows in numbers -/
def mkH (ns : List Str) (r : Row) : Hnd := ⟨ns.getD r.g "", ns.getD r.t "", r.c, r.d⟩
def effR (j : Nat) (r : Row) : Int := if j = r.g then -r.c else if j = r.t then r.d else 0
def lineF (m : Nat) (rs : List Row) : List Int := (List.range m).map fun j => (rs.map (effR j)).sum
def Row.back (r : Row) : Row := ⟨r.t, r.g, r.d, r.c⟩
theorem getD_at {ns : List Str} {i : Nat} (h : i < ns.length) : ns[i]? = some (ns.getD i "") := by
  rw [List.getD_eq_getElem?_getD, List.getElem?_eq_getElem h]; rfl
theorem getD_in {ns : List Str} {i : Nat} (h : i < ns.length) : ns.getD i "" ∈ ns := List.mem_of_getElem? (getD_at h)
theorem getD_inj {ns : List Str} (nd : ns.Nodup) {i j : Nat} (hi : i < ns.length) (hj : j < ns.length) (e : ns.getD i "" = ns.getD j "") : i = j :=
  by
    have ei : ns.getD i "" = ns[i] := by rw [List.getD_eq_getElem?_getD, List.getElem?_eq_getElem hi]; rfl
    have ej : ns.getD j "" = ns[j] := by rw [List.getD_eq_getElem?_getD, List.getElem?_eq_getElem hj]; rfl
    rw [ei, ej] at e
    have pw := List.pairwise_iff_getElem.mp nd
    rcases Nat.lt_trichotomy i j with z | z | z
    · exact absurd e (pw i j hi hj z)
    · exact z
    · exact absurd e.symm (pw j i hj hi z)
theorem hnd_ok {ns : List Str} (nd : ns.Nodup) (nm : ∀ n ∈ ns, Nm n) {r : Row} (k : RwOk ns.length r) : HnOk (mkH ns r) := ⟨nm _ (getD_in k.g), nm _ (getD_in k.t), fun e => k.ne (getD_inj nd k.g k.t e), k.c0, k.d0, k.cs, k.ds⟩
theorem sw_ok {ns : List Str} {rs : List Row} (n2 : 2 ≤ ns.length) (n6 : ns.length ≤ 6) (nd : ns.Nodup) (nm : ∀ n ∈ ns, Nm n) (k : ∀ r ∈ rs, RwOk ns.length r) : SwOk ns (rs.map (mkH ns)) := ⟨n2, n6, nd, nm, fun h m => by
  obtain ⟨r, hr, rfl⟩ := List.mem_map.mp m
  exact ⟨hnd_ok nd nm (k r hr), getD_in (k r hr).g, getD_in (k r hr).t⟩⟩
theorem back_mk (ns : List Str) (rs : List Row) : (rs.map (mkH ns)).map Hnd.back = (rs.map Row.back).map (mkH ns) := by
  rw [List.map_map, List.map_map]; rfl
theorem RwOk.back {m : Nat} {r : Row} (k : RwOk m r) : RwOk m r.back := ⟨k.t, k.g, Ne.symm k.ne, k.d0, k.c0, k.ds, k.cs⟩
theorem eff_row {ns : List Str} (nd : ns.Nodup) {r : Row} (k : RwOk ns.length r) {j : Nat} (hj : j < ns.length) : (mkH ns r).eff (ns.getD j "") = effR j r := by
  unfold Hnd.eff effR
  have e1 : (ns.getD j "" = (mkH ns r).g) ↔ j = r.g := ⟨fun e => getD_inj nd hj k.g e, fun e => by rw [e]; rfl⟩
  have e2 : (ns.getD j "" = (mkH ns r).t) ↔ j = r.t := ⟨fun e => getD_inj nd hj k.t e, fun e => by rw [e]; rfl⟩
  simp only [e1, e2]
  rfl
theorem net_row {ns : List Str} (nd : ns.Nodup) {j : Nat} (hj : j < ns.length) : ∀ {rs : List Row}, (∀ r ∈ rs, RwOk ns.length r) → net (rs.map (mkH ns)) (ns.getD j "") = (rs.map (effR j)).sum
  | [], _ => rfl
  | r :: rs, k => by
    have ih := net_row nd hj (rs := rs) fun x hx => k x (List.mem_cons_of_mem _ hx)
    have er := eff_row nd (k r List.mem_cons_self) hj
    unfold net at ih ⊢
    rw [List.map_cons, List.map_cons, List.sum_cons, ← er, ← ih]
    by_cases h : (decide (ns.getD j "" = (mkH ns r).g) || decide (ns.getD j "" = (mkH ns r).t)) = true
    · rw [List.filter_cons, if_pos h, List.map_cons, List.sum_cons]
    · rw [List.filter_cons, if_neg h]
      have : (mkH ns r).eff (ns.getD j "") = 0 := by
        unfold Hnd.eff
        rw [Bool.or_eq_true, decide_eq_true_iff, decide_eq_true_iff] at h
        rw [if_neg fun e => h (.inl e), if_neg fun e => h (.inr e)]
      rw [this, Int.zero_add]
theorem nets_line {ns : List Str} (nd : ns.Nodup) {rs : List Row} (k : ∀ r ∈ rs, RwOk ns.length r) : ns.map (net (rs.map (mkH ns))) = lineF ns.length rs := by
  refine List.ext_getElem? fun j => ?_
  unfold lineF
  rw [List.getElem?_map, List.getElem?_map]
  by_cases hj : j < ns.length
  · rw [getD_at hj, List.getElem?_range hj, Option.map_some, Option.map_some, net_row nd hj k]
  · rw [List.getElem?_eq_none (by omega), List.getElem?_eq_none (by rw [List.length_range]; omega)]; rfl
theorem line_at {m j : Nat} {rs : List Row} (h : j < m) : (lineF m rs)[j]? = some (rs.map (effR j)).sum := by
  unfold lineF
  rw [List.getElem?_map, List.getElem?_range h]; rfl
theorem line_len (m : Nat) (rs : List Row) : (lineF m rs).length = m := by unfold lineF; rw [List.length_map, List.length_range]
theorem line_nil (m : Nat) : lineF m [] = List.replicate m 0 := by
  refine List.ext_getElem? fun j => ?_
  by_cases h : j < m
  · rw [line_at h, List.getElem?_replicate_of_lt h]; rfl
  · rw [List.getElem?_eq_none (by rw [line_len]; omega), List.getElem?_eq_none (by rw [List.length_replicate]; omega)]
theorem line_step {m : Nat} {rs : List Row} {r : Row} (k : RwOk m r) : ((lineF m rs).set r.g ((rs.map (effR r.g)).sum - r.c)).set r.t ((rs.map (effR r.t)).sum + r.d) = lineF m (rs ++ [r]) := by
  refine List.ext_getElem? fun j => ?_
  by_cases h : j < m
  · rw [line_at h, List.map_append, List.sum_append, List.getElem?_set, List.getElem?_set, List.length_set, line_len]
    have one : ([r].map (effR j)).sum = effR j r := by simp
    rw [one]
    unfold effR
    by_cases e1 : r.t = j
    · subst e1
      rw [if_pos rfl, if_pos h, if_neg (Ne.symm k.ne), if_pos rfl]
    · rw [if_neg e1]
      by_cases e2 : r.g = j
      · subst e2
        rw [if_pos rfl, if_pos h, if_pos rfl]
        rfl
      · rw [if_neg e2, line_at h, if_neg (Ne.symm e2), if_neg (Ne.symm e1), Int.add_zero]
        rfl
  · rw [List.getElem?_eq_none (by rw [List.length_set, List.length_set, line_len]; omega), List.getElem?_eq_none (by rw [line_len]; omega)]
theorem effR_sm {m j : Nat} {r : Row} (k : RwOk m r) : (effR j r).natAbs < 2 ^ 50 := by
  unfold effR
  have := k.cs
  have := k.ds
  split
  · omega
  · split <;> omega
theorem sum_sm {m j : Nat} : ∀ {rs : List Row}, (∀ r ∈ rs, RwOk m r) → (rs.map (effR j)).sum.natAbs ≤ rs.length * 2 ^ 50
  | [], _ => by simp
  | r :: rs, k => by
    have ih := sum_sm (j := j) (rs := rs) fun x hx => k x (List.mem_cons_of_mem _ hx)
    have h1 := effR_sm (j := j) (k r List.mem_cons_self)
    rw [List.map_cons, List.sum_cons, List.length_cons, Nat.succ_mul]
    omega
def LineSm (l : List Int) : Prop := ∀ z ∈ l, z.natAbs < 2 ^ 56
theorem line_sm {m : Nat} {rs : List Row} (k : ∀ r ∈ rs, RwOk m r) (l : rs.length ≤ 60) : LineSm (lineF m rs) := fun z hz => by
  obtain ⟨j, _, rfl⟩ := List.mem_map.mp hz
  have := sum_sm (j := j) k
  have : rs.length * 2 ^ 50 ≤ 60 * 2 ^ 50 := Nat.mul_le_mul_right _ l
  omega
end K5

/-! k44: _law_made. -/
namespace K5
open PySem PySem.Spec PyProof.Rows L2 LamX K1 K18

/-- a row of units, in sixths -/
def Row.up (k : Nat) (r : Row) : Row := ⟨r.g, r.t, k * r.c, k * r.d⟩
/-- u units make one: k sixths each -/
structure Unit6 (u k : Nat) : Prop where
  e : u * k = 6
  u1 : 1 ≤ u
  k1 : 1 ≤ k
  k6 : k ≤ 6
theorem up_ok {m k : Nat} {r : Row} (h : RwOk m r) (k6 : k ≤ 6) (c : r.c.natAbs < 2 ^ 40) (d : r.d.natAbs < 2 ^ 40) : RwOk m (Row.up k r) := by
  have z : ∀ x : Int, 0 ≤ x → x.natAbs < 2 ^ 40 → 0 ≤ (k : Int) * x ∧ ((k : Int) * x).natAbs < 2 ^ 50 := fun x x0 xs => by
    have h1 : 0 ≤ (k : Int) * x := Int.mul_nonneg (by omega) x0
    have h2 : (k : Int) * x ≤ 6 * x := Int.mul_le_mul_of_nonneg_right (by omega) x0
    exact ⟨h1, by omega⟩
  exact ⟨h.g, h.t, h.ne, (z _ h.c0 c).1, (z _ h.d0 d).1, (z _ h.c0 c).2, (z _ h.d0 d).2⟩
theorem red_up {u k : Nat} (h : Unit6 u k) (x : Int) : rT x u = rT (k * x) 6 ∧ rB x u = rB (k * x) 6 := by
  have e : (u : Int) * (k : Int) = 6 := by exact_mod_cast h.e
  refine red_eq (by have := h.u1; omega) (by decide) ?_
  rw [← e, Int.mul_comm (k : Int) x, Int.mul_assoc, Int.mul_comm (u : Int) (k : Int)]
def spMade (C CH CS : Addr) : Sp := fun vs H Q _ => ∃ (nm hw : Addr) (ns : List Str) (rs : List Row) (u k : Nat), vs = [.ref nm, .int u, .ref hw] ∧ Unit6 u k ∧ H nm = some (.lst (ns.map V.str)) ∧ 2 ≤ ns.length ∧ ns.length ≤ 6 ∧ ns.Nodup ∧ (∀ n ∈ ns, Nm n) ∧
  RwL H hw rs ∧ (∀ r ∈ rs, RwOk ns.length r ∧ r.c.natAbs < 2 ^ 40 ∧ r.d.natAbs < 2 ^ 40) ∧ rs.length ≤ 10 ∧ ∀ (b : Addr) (H' : Hp), Same H H' → H b = none → SwAt C CH CS H' b ns ((rs.map (Row.up k)).map (mkH ns)) → Q (.ref b) H'
theorem tcons_rat {C : Addr} {σ : L2.St} {H : Hp} {i j : Nat} {t b z : Int} {tB : TA} {Qs : List V → Hp → Prop} (h1 : σ[i]? = some (some (.int t))) (h2 : σ[j]? = some (some (.int b))) (b0 : b ≠ 0) (st : t.natAbs < 2 ^ 100) (sb : b.natAbs < 2 ^ 100) (e : rT t b = rT z 6 ∧ rB t b = rB z 6)
    (k : ∀ p H', Same H H' → H p = none → Six C H' p z → tB σ H' fun vs H2 => Qs (.ref p :: vs) H2) : tCons (tMake C (spRI C) [] E0 (tCons (tVar i) (tCons (tVar j) tNil))) tB σ H Qs :=
  ⟨_, h1, _, h2, mk_six (Q := fun v H' => tB σ H' fun vs H2 => Qs (v :: vs) H2) b0 st sb e k⟩
section
variable {P : Program} {w : World} {K : PySem.W.Frag} {mg : Str → Option Value} {base : Heap} {f C CH CS CM : Addr} {fd : FuncData}
abbrev nMade : List Str := ["_law_names", "_law_unit", "_law_hands", "_law_found", "_law_giver", "_law_taker", "_law_cost", "_law_gain"]
theorem scMade : FnScope nMade ["_law_names", "_law_unit", "_law_hands"] (defScope sMade) := ⟨rfl, rfl, rfl, by decide +kernel, rfl, by decide +kernel, by decide +kernel⟩
theorem ok_made (MR : MkR P w K mg base C) (MH : MkH P w K mg base C CH) (M : MkS P w K mg base C CH CS CM) (F : DefAt K "_law_made" "_law_made" sMade f fd) : FnOk P w K mg base CX0 10 f fd ["_law_names", "_law_unit", "_law_hands"] (spMade C CH CS) := by
  obtain ⟨fr, fdr, ds, Mr, GR, bR, _, _⟩ := MR.m
  obtain ⟨fh, fdh, Hm, GH, bH⟩ := MH.m
  obtain ⟨fm, fdm, Mm, GM, bM⟩ := M.m
  refine okN F scMade (fun vs H Q E ⟨nm, hw, ns, rs, u, k, e, _⟩ => by rw [e]; rfl) (fun cdv A outer s H vs Q E hr ⟨nm, hw, ns, rs, u, k, e, uk, hnm, n2, n6, nd, nmo, rwl, ok, l10, q⟩ => ?_)
  subst e
  have r9 := hr
  have r8 := hr.mono (show 8 ≤ 9 by decide)
  have r3 := hr.mono (show 3 ≤ 9 by decide)
  refine ⟨_, pss_cons (ps_set (i := 3) scMade.nd rfl (Or.inl rfl) (pe_lst pa_nil))
    (pss_cons (ps_for PassesOwn.never rfl (pi_list (pv 2)) (pg_tup (by rfl) (pgs_cons (pg_name (i := 4) scMade.nd rfl (Or.inl rfl)) (pgs_cons (pg_name (i := 5) scMade.nd rfl (Or.inl rfl)) (pgs_cons (pg_name (i := 6) scMade.nd rfl (Or.inl rfl)) (pgs_cons (pg_name (i := 7) scMade.nd rfl (Or.inl rfl)) pgs_nil)))))
      (pss_one (ps_expr (pe_bm PySem.F.plainAttrs_list PySem.F.slot_list_append PySem.F.type_list_append mt_append (pv 3) (pa_cons (pe_make (E := E0) Hm GH r8 rfl MH.g bH .nil pass0 (pa_cons (pe_ix ix_list (pv 0) (pv 4) (fun _ _ => rfl)) (pa_cons (pe_ix ix_list (pv 0) (pv 5) (fun _ _ => rfl))
        (pa_cons (pe_make (E := E0) Mr GR r3 rfl MR.g bR .nil pass0 (pa_cons (pv 6) (pa_cons (pv 1) pa_nil))) (pa_cons (pe_make (E := E0) Mr GR r3 rfl MR.g bR .nil pass0 (pa_cons (pv 7) (pa_cons (pv 1) pa_nil))) pa_nil))))) pa_nil)))))
    (pss_one (ps_ret (pe_make (E := E0) Mm GM r9 rfl M.g bM .nil passL (pa_cons (pv 0) (pa_cons (pv 3) pa_nil)))))), ?_⟩
  have sz : sizeLine = 16777216 := sizeLine_eq
  refine ⟨(by show 0 ≤ sizeLine; omega), fun d nd' => ⟨_, rfl, ?_⟩⟩
  have s1 := upd_new (o := .lst []) nd'
  have hd1 : upd H d (.lst []) d = some (.lst []) := upd_same
  generalize upd H d (.lst []) = H1 at s1 hd1 ⊢
  obtain ⟨ras, hrw, ral⟩ := rwl
  refine ⟨hw, rfl, ⟨_, SqL.of (s1 _ _ hrw)⟩, ?_⟩
  refine for_it (walk_list (xs := ras.map V.ref)) (fun i σ H3 => ∃ (as : List Addr) (z4 z5 z6 z7 : Option V), σ = [some (V.ref nm), some (.int u), some (.ref hw), some (.ref d), z4, z5, z6, z7] ∧ Same H H3 ∧ H3 d = some (.lst (as.map V.ref)) ∧ Hands C CH H3 as (((rs.take i).map (Row.up k)).map (mkH ns)))
    ⟨[], none, none, none, none, rfl, s1, hd1, by simpa using All2.nil⟩ ?_ ?_ ?_
  · rintro i σ H3 hi ⟨as, z4, z5, z6, z7, rfl, s3, hd3, hh⟩
    exact SqL.of (s3 _ _ hrw)
  · rintro i x σ H3 H4 hi ⟨as, z4, z5, z6, z7, rfl, s3, hd3, hh⟩ ⟨rfl, ex⟩
    obtain ⟨a, ea, rfl⟩ := map_at ex
    obtain ⟨r, er, ra⟩ := ral.get ea
    obtain ⟨ro, rc, rd⟩ := ok r (List.mem_of_getElem? er)
    have ru := up_ok ro uk.k6 rc rd
    have li := (List.getElem?_eq_some_iff.mp er).1
    have ub : ((u : Nat) : Int).natAbs < 2 ^ 100 := by
      have h1 := uk.e; have h2 := uk.k1
      have : u * 1 ≤ u * k := Nat.mul_le_mul_left u h2
      omega
    have u0 : ((u : Nat) : Int) ≠ 0 := by have := uk.u1; omega
    refine ⟨a, rV r, rfl, SqT.of (s3 _ _ ra), rfl, _, _, rfl, _, _, rfl, _, _, rfl, _, _, rfl, rfl, ?_⟩
    refine ⟨_, rfl, .inl ⟨rfl, _, SqL.of hd3⟩, ?_⟩
    refine ⟨_, rfl, _, rfl, nm, ns.map V.str, _, _, rfl, rfl, SqL.of (s3 _ _ hnm), atI_nat (by rw [List.getElem?_map, getD_at ro.g]; rfl), ?_⟩
    refine ⟨_, rfl, _, rfl, nm, ns.map V.str, _, _, rfl, rfl, SqL.of (s3 _ _ hnm), atI_nat (by rw [List.getElem?_map, getD_at ro.t]; rfl), ?_⟩
    refine tcons_rat (z := k * r.c) rfl rfl u0 (by omega) ub (red_up uk _) fun pc H5 s5 _ six5 => ?_
    refine tcons_rat (z := k * r.d) rfl rfl u0 (by omega) ub (red_up uk _) fun pd H6 s6 _ six6 => ?_
    dsimp only [tNil]
    refine mk_hand (CH := CH) (Q := fun v H2 => rAppend (.ref d) [v] H2 _) (h := mkH ns (Row.up k r)) (hnd_ok nd nmo ru) (.inl ⟨pc, rfl, six5.same s6⟩) (.inl ⟨pd, rfl, six6⟩) fun q' H7 s7 nq hq => ?_
    have s37 := (s5.trans s6).trans s7
    have hd7 := s37 _ _ hd3
    have las := hh.1
    rw [List.length_map, List.length_map, List.length_take] at las
    refine ⟨d, as.map V.ref, .ref q', rfl, rfl, hd7, by rw [List.length_map]; omega, as ++ [q'], _, _, _, _, rfl, same_upd nd' (s3.trans s37), by rw [upd_same, List.map_append]; rfl, ?_⟩
    rw [take_more er, List.map_append, List.map_append]
    exact All2.snoc (hh.mono fun u v z => hand_upd hd7 (z.same s37)) (hand_upd hd7 hq)
  · rintro σ H3 ⟨as, z4, z5, z6, z7, rfl, s3, hd3, hh⟩
    rw [List.length_map, ral.1, List.take_length] at hh
    have oku : ∀ r ∈ rs.map (Row.up k), RwOk ns.length r := fun r mr => by
      obtain ⟨r', mr', rfl⟩ := List.mem_map.mp mr
      exact up_ok (ok r' mr').1 uk.k6 (ok r' mr').2.1 (ok r' mr').2.2
    refine ⟨_, rfl, _, rfl, mk_swap0 (Q := Q) (s3 _ _ hnm) (.inl hd3) hh (sw_ok n2 n6 nd nmo oku) (by rw [List.length_map, List.length_map]; omega) fun b H4 s4 nb sw => ?_⟩
    refine q b H4 (s3.trans s4) ?_ sw
    cases e : H b with
    | none => rfl
    | some o => rw [s3 _ _ e] at nb; cases nb
end
end K5

/-! k44: _law_along, _law_begun. -/
namespace K5
open PySem PySem.Spec PyProof.Rows L2 LamX K1 K18

/-- what one has along a row, behind j of its numbers -/
def totR (rs : List Row) (ks : List Nat) (pl j : Nat) : Int := (((ks.take j).filterMap fun k => rs[k]?).map (effR pl)).sum
def totsR (rs : List Row) (ks : List Nat) (pl : Nat) : List Int := (List.range (ks.length + 1)).map (totR rs ks pl)
theorem tot_step {rs : List Row} {ks : List Nat} {pl i k : Nat} {r : Row} (ek : ks[i]? = some k) (er : rs[k]? = some r) : totR rs ks pl (i + 1) = totR rs ks pl i + effR pl r := by
  unfold totR
  rw [take_more ek, List.filterMap_append, List.map_append, List.sum_append]
  simp [er]
theorem tots_step (rs : List Row) (ks : List Nat) (pl i : Nat) : (List.range (i + 1 + 1)).map (totR rs ks pl) = (List.range (i + 1)).map (totR rs ks pl) ++ [totR rs ks pl (i + 1)] := by
  rw [List.range_succ, List.map_append]; rfl
def spLAlong : Sp := fun vs H Q _ => ∃ (hw b : Addr) (rs : List Row) (ks : List Nat) (pl : Nat), vs = [.ref hw, .ref b, .int pl] ∧ RwL H hw rs ∧ SqA H b (kV ks) ∧ (∀ k ∈ ks, k < rs.length) ∧ ks.length ≤ 1000 ∧ ∀ (d : Addr) (H' : Hp), Same H H' → H d = none → H' d = some (.lst ((totsR rs ks pl).map V.int)) → Q (.ref d) H'
section
variable {P : Program} {w : World} {K : PySem.W.Frag} {mg : Str → Option Value} {base : Heap} {f : Addr} {fd : FuncData}
abbrev nLAlong : List Str := ["_law_hands", "_law_row", "_law_place", "_law_total", "_law_found", "_law_number", "_law_giver", "_law_taker", "_law_cost", "_law_gain"]
theorem scLAlong : FnScope nLAlong ["_law_hands", "_law_row", "_law_place"] (defScope sLAlong) := ⟨rfl, rfl, rfl, by decide +kernel, rfl, by decide +kernel, by decide +kernel⟩
theorem ok_lalong (F : DefAt K "_law_along" "_law_along" sLAlong f fd) : FnOk P w K mg base CX0 1 f fd ["_law_hands", "_law_row", "_law_place"] spLAlong := by
  refine okN F scLAlong (fun vs H Q E ⟨hw, b, rs, ks, pl, e, _⟩ => by rw [e]; rfl) (fun cdv A outer s H vs Q E hr ⟨hw, b, rs, ks, pl, e, rwl, sq, lt, l1000, q⟩ => ?_)
  subst e
  refine ⟨_, pss_cons (ps_par (i := 3) (j := 4) (by rfl) scLAlong.nd rfl rfl (by decide) rfl rfl (pa_cons pe_int (pa_cons (pe_lst (pa_cons pe_int pa_nil)) pa_nil)) (by rfl))
    (pss_cons (ps_for PassesOwn.never rfl (pi_seq (pv 1)) (pg_name (i := 5) scLAlong.nd rfl (Or.inl rfl))
      (pss_cons (ps_asg (pe_ix (r := rIxL K) ix_list (pv 0) (pv 5) (fun _ _ => rfl)) (pg_tup (by rfl) (pgs_cons (pg_name (i := 6) scLAlong.nd rfl (Or.inl rfl)) (pgs_cons (pg_name (i := 7) scLAlong.nd rfl (Or.inl rfl)) (pgs_cons (pg_name (i := 8) scLAlong.nd rfl (Or.inl rfl)) (pgs_cons (pg_name (i := 9) scLAlong.nd rfl (Or.inl rfl)) pgs_nil))))))
      (pss_cons (ps_set (i := 3) scLAlong.nd rfl (Or.inl rfl) (pe_ifExp (pt_cmpR op_eq (pv 6) (pv 2) (nomark _)) (pe_op op_sub (pv 3) (pv 8)) (pe_ifExp (pt_cmpR op_eq (pv 7) (pv 2) (nomark _)) (pe_op op_add (pv 3) (pv 9)) (pv 3))))
      (pss_one (ps_expr (pe_bm PySem.F.plainAttrs_list PySem.F.slot_list_append PySem.F.type_list_append mt_append (pv 4) (pa_cons (pv 3) pa_nil)))))))
    (pss_one (ps_ret (pv 4)))), ?_⟩
  have sz : sizeLine = 16777216 := sizeLine_eq
  refine ⟨(by show 1 ≤ sizeLine; omega), fun d nd' => ⟨_, _, rfl, ?_⟩⟩
  have s1 := upd_new (o := .lst [V.int 0]) nd'
  have hd1 : upd H d (.lst [V.int 0]) d = some (.lst (((List.range (0 + 1)).map (totR rs ks pl)).map V.int)) := by rw [upd_same]; rfl
  generalize upd H d (.lst [V.int 0]) = H1 at s1 hd1 ⊢
  obtain ⟨ras, hrw, ral⟩ := rwl
  refine ⟨_, rfl, b, rfl, ?_⟩
  refine for_seqA (sq.same s1) (fun i σ H3 => ∃ z5 z6 z7 z8 z9 : Option V, σ = [some (V.ref hw), some (.ref b), some (.int pl), some (.int (totR rs ks pl i)), some (.ref d), z5, z6, z7, z8, z9] ∧ Same H H3 ∧ H3 d = some (.lst (((List.range (i + 1)).map (totR rs ks pl)).map V.int)))
    ⟨none, none, none, none, none, rfl, s1, hd1⟩ (fun i σ H3 _ ⟨_, _, _, _, _, _, s3, _⟩ => ?_) ?_ ?_
  · obtain ⟨o, e⟩ := sq.there
    rw [s3 _ _ e, s1 _ _ e]
  · rintro i x σ H3 ex ⟨z5, z6, z7, z8, z9, rfl, s3, hd3⟩
    obtain ⟨k, ek, rfl⟩ := map_at ex
    have hk := lt k (List.mem_of_getElem? ek)
    have li := (List.getElem?_eq_some_iff.mp ek).1
    have er : rs[k]? = some rs[k] := List.getElem?_eq_getElem hk
    obtain ⟨a, ea, ra⟩ := ral.getR er
    refine ⟨_, rfl, _, rfl, hw, _, _, _, rfl, rfl, SqL.of (s3 _ _ hrw), atI_nat (j := k) (v := .ref a) (by rw [List.getElem?_map, ea]; rfl), ?_⟩
    refine ⟨a, rV rs[k], rfl, SqT.of (s3 _ _ ra), rfl, _, _, rfl, _, _, rfl, _, _, rfl, _, _, rfl, rfl, ?_⟩
    have st := tot_step (pl := pl) ek er
    dsimp only
    refine seq_any (R := fun v H' => v = .int (totR rs ks pl (i + 1)) ∧ H' = H3) (fun Q2 kq => ?_) ?_
    · unfold effR at st
      refine ⟨_, rfl, _, rfl, rfl, decide (pl = rs[k].g), congrArg V.bl (decide_eq_decide.mpr ⟨fun e => by have e := V.int.inj e; omega, fun e => by rw [e]⟩), ?_⟩
      by_cases e1 : pl = rs[k].g
      · rw [if_pos e1] at st
        rw [decide_eq_true e1]
        exact iteT ⟨_, rfl, _, rfl, _, _, rfl, rfl, kq _ _ ⟨by rw [st]; rfl, rfl⟩⟩
      rw [if_neg e1] at st
      rw [decide_eq_false e1]
      refine iteF ⟨_, rfl, _, rfl, rfl, decide (pl = rs[k].t), congrArg V.bl (decide_eq_decide.mpr ⟨fun e => by have e := V.int.inj e; omega, fun e => by rw [e]⟩), ?_⟩
      by_cases e2 : pl = rs[k].t
      · rw [if_pos e2] at st
        rw [decide_eq_true e2]
        exact iteT ⟨_, rfl, _, rfl, _, _, rfl, rfl, kq _ _ ⟨by rw [st], rfl⟩⟩
      rw [if_neg e2] at st
      rw [decide_eq_false e2]
      exact iteF ⟨_, rfl, kq _ _ ⟨by rw [st, Int.add_zero], rfl⟩⟩
    rintro _ _ ⟨rfl, rfl⟩
    refine ⟨_, rfl, .inl ⟨rfl, _, SqL.of hd3⟩, _, rfl, d, _, _, rfl, rfl, hd3, by rw [List.length_map, List.length_map, List.length_range]; omega, _, _, _, _, _, rfl, same_upd nd' s3, ?_⟩
    rw [upd_same, tots_step, List.map_append]
    rfl
  · rintro σ H3 ⟨z5, z6, z7, z8, z9, rfl, s3, hd3⟩
    refine ⟨_, rfl, q d H3 s3 nd' ?_⟩
    rw [kV, List.length_map] at hd3
    exact hd3
end
end K5

/-! k44: a part of a tuple, the whole of it too. -/
namespace K5
open PySem PySem.Spec PyProof.Rows L2 LamX K1 K18 HT

section
variable {prog : Program} {w : World} {A : Around} {E : Value → Shared → Prop} {s : Shared}
/-- t[lo:hi], the whole of t: t itself -/
theorem item_whole {t z : Addr} {its : Array Value} {v1 v2 : Value} {lo hi : Option Int} {Q : Value → Shared → Prop} (tt : IsTup s.heap t its) (zz : s.heap.IsSliceOf z v1 v2 .none) (p1 : IsPart v1 lo) (p2 : IsPart v2 hi)
    (h0 : sIx its.size 0 lo = 0) (h1 : sIx its.size its.size hi = its.size) (q : Q (.ref t) s) : wpAny (model prog w) A (getItem (.ref t) (.ref z)) Q E s := by
  obtain ⟨oz, oz1, oz2, oz3⟩ := id zz
  obtain ⟨ot, ot1, ot2, ot3⟩ := id tt
  have ty2 : s.TypeIs (.ref z) "slice" := ⟨oz, oz1, oz2⟩
  unfold getItem
  try with_reducible refine wpAny_holding ?_
  first | refine wpAny_bind (wpAny_pure ?_) | skip
  refine wpAny_bind (wpAny_sequenceKey tt.typeIs (by decide) (wpAny_bind (wpAny_callSpecial?_slot (name := Str.ofString "__getitem__") tt.typeIs PyProof.Rows.slot_tuple_getitem (wpAny_call_entry PyProof.Rows.slot_tuple_getitem tt.typeIs entry_tuple_getitem ?_ (args_tuple_getitem _ _)))))
  show wpAny _ _ (Builtin.Tuple.tupleItemsOf (.ref t) >>= _) _ _ s
  refine wpAny_bind (tupleItemsOf_ tt (wpAny_bind (wpAny_typeOf ty2 ?_)))
  rw [if_pos (by decide)]
  refine wpAny_bind (sliceApplied_gen zz p1 p2 ?_)
  have yes : ((((sIx its.size 0 lo : Nat) : Int) == 0) && ((1 : Int) == 1) && ((sIx its.size its.size hi - sIx its.size 0 lo) == its.size)) = true := by
    rw [h0, h1]; simp
  show wpAny _ _ (if ((((sIx its.size 0 lo : Nat) : Int) == 0) && ((1 : Int) == 1) && ((sIx its.size its.size hi - sIx its.size 0 lo) == its.size)) = true then _ else _) _ _ s
  rw [if_pos yes]
  refine wpAny_bind (m := Builtin.Tuple.tupleIsExact (.ref t)) ?_
  unfold Builtin.Tuple.tupleIsExact
  refine wpAny_bind (wpAny_typeOf tt.typeIs (wpAny_pure ?_))
  rw [if_pos (by decide)]
  exact wpAny_bind (wpAny_rule (wpAny_pure ⟨_, rfl, wpAny_pure q⟩))
end
/-- .. any part -/
def rSlTA (K : PySem.W.Frag) : V → Option Int → Option Int → Hp → VK → Prop := fun x lo hi H Q => ∃ a xs, x = .ref a ∧ SqT K H a xs ∧
  ((sIx xs.length 0 lo = 0 ∧ sIx xs.length xs.length hi = xs.length ∧ Q (.ref a) H) ∨ rSlT K x lo hi H Q)
theorem sl_tupA {X : Cx} {K : PySem.W.Frag} (hK : X.K = K) : SlR X (rSlTA K) := by
  subst hK
  intro pins s σ H x v vl vu lo hi sl Q I rx hs pl pu ⟨a, xs, ex, hx, q⟩
  rcases q with ⟨h0, h1, q⟩ | q
  · subst ex
    cases rx
    obtain ⟨its, r, ht, hz⟩ := I.tuple hx
    have hlen : its.toArray.size = xs.length := by rw [List.size_toArray]; exact r.length.symm
    exact ⟨"tuple", _, PyProof.Rows.slot_tuple_getitem.lookup, ht.typeIs, item_whole ht hs pl pu (by rw [hlen]; exact h0) (by rw [hlen]; exact h1) ⟨.ref a, H, I, rfl, q⟩⟩
  · exact sl_tup pins s σ H x v vl vu lo hi sl Q I rx hs pl pu q
/-- the first j of a list or a tuple of numbers -/
def rSlA (K : PySem.W.Frag) : V → Option Int → Option Int → Hp → VK → Prop := fun x lo hi H Q => rSlL K x lo hi H Q ∨ rSlTA K x lo hi H Q
theorem sl_any {X : Cx} {K : PySem.W.Frag} (hK : X.K = K) : SlR X (rSlA K) := by
  subst hK
  exact sl_list.or (sl_tupA rfl)
theorem cut_first {ms : List Nat} {j : Nat} (h : j ≤ ms.length) : cutV (kV ms) none (some (j : Int)) = kV (ms.take j) := by
  unfold cutV
  rw [sIx_none, sIx_nat, List.drop_zero, Nat.sub_zero, kV_len, Nat.min_eq_left h]
  unfold kV
  rw [List.map_take]
theorem first_of {K : PySem.W.Frag} {H : Hp} {d : Addr} {ms : List Nat} {j : Nat} {Q : VK} (sq : SqA H d (kV ms)) (h : j ≤ ms.length) (q : ∀ e H', Same H H' → SqA H' e (kV (ms.take j)) → (e = d ∨ H e = none) → Q (.ref e) H') : rSlA K (.ref d) none (some (j : Int)) H Q := by
  rcases sq with sq | sq
  · exact .inl ⟨d, _, rfl, SqL.of sq, fun p np => q p _ (upd_new np) (.inl (by rw [upd_same, cut_first h])) (.inr np)⟩
  · refine .inr ⟨d, _, rfl, SqT.of sq, ?_⟩
    by_cases e : j = ms.length
    · refine .inl ⟨sIx_none _ _, by rw [sIx_nat, kV_len]; omega, q d H (Same.refl H) (.inr ?_) (.inl rfl)⟩
      rw [e, List.take_length]
      exact sq
    · refine .inr ⟨d, _, rfl, SqT.of sq, fun z => ?_, fun p np => q p _ (upd_new np) (.inr (by rw [upd_same, cut_first h])) (.inr np)⟩
      have z2 := z.2
      rw [sIx_nat, kV_len] at z2
      omega
end K5

/-! k44: _law_begun. -/
namespace K5
open PySem PySem.Spec PyProof.Rows L2 LamX K1 K18 HT

theorem cut_from {ms : List Nat} {j : Nat} (h : j ≤ ms.length) : cutV (kV ms) (some (j : Int)) none = kV (ms.drop j) := by
  unfold cutV
  rw [sIx_nat, sIx_none, kV_len, Nat.min_eq_left h, List.take_of_length_le (by rw [List.length_drop, kV_len]; omega)]
  unfold kV
  rw [List.map_drop]
theorem from_of {K : PySem.W.Frag} {H : Hp} {d : Addr} {ms : List Nat} {j : Nat} {Q : VK} (sq : SqA H d (kV ms)) (h : j ≤ ms.length) (q : ∀ e H', Same H H' → SqA H' e (kV (ms.drop j)) → Q (.ref e) H') : rSlA K (.ref d) (some (j : Int)) none H Q := by
  rcases sq with sq | sq
  · exact .inl ⟨d, _, rfl, SqL.of sq, fun p np => q p _ (upd_new np) (.inl (by rw [upd_same, cut_from h]))⟩
  · refine .inr ⟨d, _, rfl, SqT.of sq, ?_⟩
    by_cases e : j = 0
    · refine .inl ⟨by rw [sIx_nat]; omega, sIx_none _ _, q d H (Same.refl H) (.inr ?_)⟩
      rw [e, List.drop_zero]
      exact sq
    · refine .inr ⟨d, _, rfl, SqT.of sq, fun z => ?_, fun p np => q p _ (upd_new np) (.inr (by rw [upd_same, cut_from h]))⟩
      have z1 := z.1
      rw [sIx_nat, kV_len] at z1
      omega
/-- a row begun at its j-th number -/
def begun (ks : List Nat) (j : Nat) : List Nat := ks.drop j ++ ks.take j
def spLBegun : Sp := fun vs H Q _ => ∃ (b : Addr) (ks : List Nat) (j : Nat), vs = [.ref b, .int j] ∧ SqA H b (kV ks) ∧ j ≤ ks.length ∧ ks.length ≤ 1000 ∧ ∀ (t : Addr) (H' : Hp), Same H H' → H' t = some (.tup (kV (begun ks j))) → Q (.ref t) H'
section
variable {P : Program} {w : World} {K : PySem.W.Frag} {mg : Str → Option Value} {base : Heap} {f : Addr} {fd : FuncData}
theorem scLBegun : FnScope ["_law_row", "_law_at"] ["_law_row", "_law_at"] (defScope sLBegun) := ⟨rfl, rfl, rfl, by decide +kernel, rfl, by decide +kernel, by decide +kernel⟩
theorem ok_lbegun (G : Glob mg) (F : DefAt K "_law_begun" "_law_begun" sLBegun f fd) : FnOk P w K mg base CX0 1 f fd ["_law_row", "_law_at"] spLBegun := by
  refine okN F scLBegun (fun vs H Q E ⟨b, ks, j, e, _⟩ => by rw [e]; rfl) (fun cdv A outer s H vs Q E hr ⟨b, ks, j, e, sq, hj, l1000, q⟩ => ?_)
  subst e
  refine ⟨_, pss_one (ps_ret (pe_op (r := rCatA K) op_catA
    (pe_callTy (r := rTupK K) (call_tupK rfl) (by rfl) G.tup (by decide +kernel) (pa_cons (pe_slice (r := rSlA K) (sl_any rfl) (pv 0) (po_some (pv 1)) po_none) pa_nil))
    (pe_callTy (r := rTupK K) (call_tupK rfl) (by rfl) G.tup (by decide +kernel) (pa_cons (pe_slice (r := rSlA K) (sl_any rfl) (pv 0) po_none (po_some (pv 1))) pa_nil)))), ?_⟩
  have sz : sizeLine = 16777216 := sizeLine_eq
  refine ⟨_, rfl, _, rfl, _, rfl, ?_⟩
  refine from_of sq hj fun e1 H1 s1 sq1 => ?_
  dsimp only [tNil]
  refine tup_any sq1 fun t1 H2 s2 h2 => ?_
  have s12 := s1.trans s2
  refine ⟨_, rfl, _, rfl, _, rfl, ?_⟩
  refine first_of (sq.same s12) hj fun e2 H3 s3 sq3 _ => ?_
  dsimp only [tNil]
  refine tup_any sq3 fun t2 H4 s4 h4 => ?_
  have s34 := s3.trans s4
  have h24 := s34 _ _ h2
  have s14 := s12.trans s34
  have ap : kV (begun ks j) = kV (ks.drop j) ++ kV (ks.take j) := kV_app _ _
  refine ⟨t1, t2, _, _, rfl, rfl, SqT.of h24, SqT.of h4, by rw [kV_len, kV_len, List.length_drop, List.length_take]; omega, fun z => ?_, fun _ z => ?_, fun _ _ p np => ?_⟩
  · exact q t2 H4 s14 (by rw [ap, z]; exact h4)
  · exact q t1 H4 s14 (by rw [ap, z, List.append_nil]; exact h24)
  · exact q p _ (s14.trans (upd_new np)) (by rw [upd_same, ap])
end
end K5

/-! k44: _law_places. -/
namespace K5
open PySem PySem.Spec PyProof.Rows L2 LamX K1 K18

/-- how far each moment stands from the even road, times the row's length -/
def apR (rs : List Row) (ks : List Nat) (pl : Nat) : List Int := (List.range ks.length).map fun t : Nat => (ks.length : Int) * totR rs ks pl t - (t : Int) * totR rs ks pl ks.length
/-- the first place of the least, of the greatest -/
def LeastAt (zs : List Int) (i : Nat) : Prop := ∃ z, zs[i]? = some z ∧ (∀ y ∈ zs, z ≤ y) ∧ ∀ (m : Nat) (y : Int), m < i → zs[m]? = some y → z < y
def MostAt (zs : List Int) (i : Nat) : Prop := ∃ z, zs[i]? = some z ∧ (∀ y ∈ zs, y ≤ z) ∧ ∀ (m : Nat) (y : Int), m < i → zs[m]? = some y → y < z
theorem first_at {zs : List Int} {z : Int} (m : z ∈ zs) : ∃ i, zs[i]? = some z ∧ ∀ (m : Nat) (y : Int), m < i → zs[m]? = some y → y ≠ z := by
  induction zs with
  | nil => cases m
  | cons a r ih =>
    by_cases e : a = z
    · exact ⟨0, by rw [e]; rfl, fun m y h => absurd h (by omega)⟩
    · obtain ⟨i, h1, h2⟩ := ih ((List.mem_cons.mp m).resolve_left fun w => e w.symm)
      refine ⟨i + 1, by simpa using h1, fun m y h ey => ?_⟩
      cases m with
      | zero => simp at ey; rw [← ey]; exact e
      | succ m => exact h2 m y (by omega) (by simpa using ey)
def spPlaces : Sp := fun vs H Q _ => ∃ (hw b : Addr) (rs : List Row) (ks : List Nat) (pl : Nat), vs = [.ref hw, .ref b, .int pl] ∧ RwL H hw rs ∧ SqA H b (kV ks) ∧ (∀ k ∈ ks, k < rs.length) ∧ ks ≠ [] ∧ ks.length ≤ 1000 ∧
  ∀ (t : Addr) (i j : Nat) (H' : Hp), Same H H' → LeastAt (apR rs ks pl) i → MostAt (apR rs ks pl) j → H' t = some (.tup [.int i, .int j]) → Q (.ref t) H'
section
variable {P : Program} {w : World} {K : PySem.W.Frag} {mg : Str → Option Value} {base : Heap} {f : Addr} {fd : FuncData}
abbrev nPlaces : List Str := ["_law_hands", "_law_row", "_law_place", "_law_told", "_law_apart", "_law_at"]
theorem scPlaces : FnScope nPlaces ["_law_hands", "_law_row", "_law_place"] (defScope sPlaces) := ⟨rfl, rfl, rfl, by decide +kernel, rfl, by decide +kernel, by decide +kernel⟩
abbrev HasLAlong (P : Program) (w : World) (K : PySem.W.Frag) (mg : Str → Option Value) (base : Heap) : Prop := Has P w K mg base CX0 1 "_law_along" ["_law_hands", "_law_row", "_law_place"] spLAlong
theorem ok_places (G : Glob mg) (HL : HasLAlong P w K mg base) (F : DefAt K "_law_places" "_law_places" sPlaces f fd) : FnOk P w K mg base CX0 2 f fd ["_law_hands", "_law_row", "_law_place"] spPlaces := by
  obtain ⟨fl, fdl, mL, kL, bL, GL⟩ := HL.h
  refine okN F scPlaces (fun vs H Q E ⟨hw, b, rs, ks, pl, e, _⟩ => by rw [e]; rfl) (fun cdv A outer s H vs Q E hr ⟨hw, b, rs, ks, pl, e, rwl, sq, lt, ne, l1000, q⟩ => ?_)
  subst e
  refine ⟨_, pss_cons (ps_set (i := 3) scPlaces.nd rfl (Or.inr rfl) (pe_call GL hr rfl mL kL bL .nil pass0 (pa_cons (pv 0) (pa_cons (pv 1) (pa_cons (pv 2) pa_nil)))))
    (pss_cons (ps_setLc (i := 4) (own := [("_law_at", 5)]) (g := gName 5) (tt := tYes) rfl scPlaces.nd rfl rfl (by rfl) (pi_range1 (by rfl) G.range (pa_cons (pe_callB (r := rLenA K) (call_lenA rfl) (by rfl) G.len PySem.boot_len (pa_cons (pv 1) pa_nil)) pa_nil)) (blkOk_by (N := nPlaces) (sc := defScope sPlaces) (by decide +kernel))
        (fun _ _ _ _ _ => pg_name (i := 5) scPlaces.nd rfl (Or.inl rfl)) (fun _ _ _ _ _ => pts_nil) (fun _ _ _ _ _ => pe_op op_sub (pe_op op_mul (pe_callB (r := rLenA K) (call_lenA rfl) (by rfl) G.len PySem.boot_len (pa_cons (pv 1) pa_nil)) (pe_ix (r := rIxL K) ix_list (pv 3) (pv 5) (fun _ _ => rfl)))
          (pe_op op_mul (pv 5) (pe_ix (r := rIxL K) ix_list (pv 3) (pe_un un_neg pe_int) (fun _ _ => rfl)))))
    (pss_one (ps_ret (pe_tup (pa_cons (pe_bm PySem.F.plainAttrs_list PySem.F.slot_list_index PySem.F.type_list_index mt_index (pv 4) (pa_cons (pe_callB (cr_min rfl) (by rfl) G.min (by decide +kernel) (pa_cons (pv 4) pa_nil)) pa_nil))
      (pa_cons (pe_bm PySem.F.plainAttrs_list PySem.F.slot_list_index PySem.F.type_list_index mt_index (pv 4) (pa_cons (pe_callB (cr_max rfl) (by rfl) G.max (by decide +kernel) (pa_cons (pv 4) pa_nil)) pa_nil)) pa_nil)))))), ?_⟩
  have sz : sizeLine = 16777216 := sizeLine_eq
  refine ⟨_, rfl, _, rfl, _, rfl, hw, b, rs, ks, pl, rfl, rwl, sq, lt, l1000, fun d H1 s1 nd' hd => ?_⟩
  have l0 : 0 < ks.length := List.length_pos_iff.mpr ne
  have lt_ : (totsR rs ks pl).length = ks.length + 1 := by unfold totsR; rw [List.length_map, List.length_range]
  have at_ : ∀ t, t ≤ ks.length → (totsR rs ks pl)[t]? = some (totR rs ks pl t) := fun t ht => by unfold totsR; rw [List.getElem?_map, List.getElem?_range (by omega)]; rfl
  refine ⟨_, rfl, b, _, rfl, (sq.same s1).imp SqL.of SqT.of, (ks.length : Int), by rw [kV_len], by omega, by omega, fun D hD => ?_⟩
  refine lc_range (lo := 0) (n := ((ks.length : Nat) : Int).toNat) (fun i H2 => Same H1 H2 ∧ H2 D = some (.lst (((apR rs ks pl).take i).map V.int))) ⟨upd_new hD, upd_same⟩ ?_ ?_
  · rintro i H2 hi ⟨s2, hd2⟩
    have hi2 : i < ks.length := by omega
    have z0 : (0 : Int) + (i : Nat) = (i : Nat) := by omega
    have hdt := s2 _ _ hd
    have last : atI ((totsR rs ks pl).map V.int) (-1) = some (.int (totR rs ks pl ks.length)) := by
      have lm : ((totsR rs ks pl).map V.int).length = ks.length + 1 := by rw [List.length_map, lt_]
      unfold atI ixN
      rw [lm, if_neg (by decide), if_pos (by omega)]
      show ((totsR rs ks pl).map V.int)[(-1 + ((ks.length + 1 : Nat) : Int)).toNat]? = _
      rw [show (-1 + ((ks.length + 1 : Nat) : Int)).toNat = ks.length by omega, List.getElem?_map, at_ _ (Nat.le_refl _)]
      rfl
    have here : atI ((totsR rs ks pl).map V.int) ((0 : Int) + (i : Nat)) = some (.int (totR rs ks pl i)) := by
      rw [z0]
      exact atI_nat (by rw [List.getElem?_map, at_ i (by omega)]; rfl)
    have ap : (apR rs ks pl)[i]? = some ((ks.length : Int) * totR rs ks pl i - (i : Int) * totR rs ks pl ks.length) := by unfold apR; rw [List.getElem?_map, List.getElem?_range hi2]; rfl
    have k1000 : ((kV ks).length : Int) < 2 ^ 64 := by rw [kV_len]; omega
    refine ⟨rfl, yes_of ⟨_, rfl, b, _, rfl, (sq.same (s1.trans s2)).imp SqL.of SqT.of, _, rfl, _, rfl, d, _, _, _, rfl, rfl, SqL.of hdt, here, _, _, rfl, rfl, .inl ⟨by omega, k1000⟩, ?_⟩⟩
    refine ⟨_, rfl, _, rfl, 1, rfl, d, _, _, _, rfl, rfl, SqL.of hdt, last, _, _, rfl, rfl, .inl ⟨by omega, by omega⟩, _, _, rfl, rfl, _, hd2, ?_, same_upd hD s2, ?_⟩
    · rw [List.length_map, List.length_take]; omega
    · rw [upd_same, take_more ap, List.map_append, kV_len, z0]
      rfl
  rintro H2 ⟨s2, hd2⟩
  have la : (apR rs ks pl).length = ks.length := by unfold apR; rw [List.length_map, List.length_range]
  rw [Int.toNat_natCast, List.take_of_length_le (by omega)] at hd2
  have fl : ((apR rs ks pl).map V.int).all flatV = true := by rw [List.all_map]; exact List.all_eq_true.mpr fun _ _ => rfl
  have la0 : 0 < (apR rs ks pl).length := by omega
  have key : ∀ {z : Int} {i : Nat}, (∀ (m : Nat) (y : Int), m < i → (apR rs ks pl)[m]? = some y → y ≠ z) → ∀ (m : Nat) (z' : V), m < i → ((apR rs ks pl).map V.int)[m]? = some z' → eqV z' (.int z) = false := fun {z i} f m z' hm ez => by
    obtain ⟨y, ey, rfl⟩ := map_at ez
    have := f m y hm ey
    show (y == z) = false
    simpa using this
  refine ⟨_, rfl, .inl ⟨rfl, _, SqL.of hd2⟩, _, rfl, D, _, rfl, SqL.of hd2, la0, fun mn mem le => ?_⟩
  obtain ⟨i, ei, fi⟩ := first_at mem
  refine ⟨D, _, .int mn, i, .int mn, rfl, rfl, SqL.of hd2, rfl, fl, by rw [List.getElem?_map, ei]; rfl, (by show (mn == mn) = true; simp), key fi, ?_⟩
  refine ⟨_, rfl, .inl ⟨rfl, _, SqL.of hd2⟩, _, rfl, D, _, rfl, SqL.of hd2, la0, fun mx memx lex => ?_⟩
  obtain ⟨j, ej, fj⟩ := first_at memx
  refine ⟨D, _, .int mx, j, .int mx, rfl, rfl, SqL.of hd2, rfl, fl, by rw [List.getElem?_map, ej]; rfl, (by show (mx == mx) = true; simp), key fj, ?_⟩
  refine ⟨(by show 2 ≤ sizeLine; omega), fun t nt => ?_⟩
  refine q t i j _ ((s1.trans s2).trans (upd_new nt)) ⟨mn, ei, le, fun m y hm ey => ?_⟩ ⟨mx, ej, lex, fun m y hm ey => ?_⟩ upd_same
  · have z1 := le y (List.mem_of_getElem? ey)
    have z2 := fi m y hm ey
    omega
  · have z1 := lex y (List.mem_of_getElem? ey)
    have z2 := fj m y hm ey
    omega
end
end K5

/-! k44: _least_place. -/
namespace K5
open PySem PySem.Spec PyProof.Rows L2 LamX K1 K18

theorem least_new {zs : List Int} {m : Nat} {z x : Int} (h : LeastAt zs m) (e : zs[m]? = some z) (l : x < z) : LeastAt (zs ++ [x]) zs.length := by
  obtain ⟨z', e', le, _⟩ := h
  rw [e] at e'
  cases e'
  refine ⟨x, by simp, fun y hy => ?_, fun k y hk ey => ?_⟩
  · rcases List.mem_append.mp hy with hy | hy
    · have := le y hy; omega
    · rw [List.mem_singleton.mp hy]; exact Int.le_refl _
  · rw [List.getElem?_append_left hk] at ey
    have := le y (List.mem_of_getElem? ey)
    omega
theorem least_old {zs : List Int} {m : Nat} {z x : Int} (h : LeastAt zs m) (e : zs[m]? = some z) (l : ¬ x < z) : LeastAt (zs ++ [x]) m := by
  obtain ⟨z', e', le, fi⟩ := h
  rw [e] at e'
  cases e'
  have hm := (List.getElem?_eq_some_iff.mp e).1
  refine ⟨z, by rw [List.getElem?_append_left hm]; exact e, fun y hy => ?_, fun k y hk ey => ?_⟩
  · rcases List.mem_append.mp hy with hy | hy
    · exact le y hy
    · rw [List.mem_singleton.mp hy]; omega
  · rw [List.getElem?_append_left (by omega)] at ey
    exact fi k y hk ey
theorem least_one (x : Int) : LeastAt [x] 0 := ⟨x, rfl, fun y hy => by rw [List.mem_singleton.mp hy]; exact Int.le_refl _, fun k y hk => absurd hk (by omega)⟩
def spLeast (C : Addr) : Sp := fun vs H Q _ => ∃ l as zs d, vs = [.ref l] ∧ H l = some (.lst (as.map V.ref)) ∧ All2 (fun a z => Frc C H a z d) as zs ∧ (∀ z ∈ zs, SmF z d) ∧ zs.length ≤ 50 ∧ ∀ (i : Nat) H', Same H H' → ((zs = [] ∧ i = 0) ∨ LeastAt zs i) → Q (.int i) H'
section
variable {P : Program} {w : World} {K : PySem.W.Frag} {mg : Str → Option Value} {base : Heap} {f C : Addr} {fd : FuncData}
abbrev nLeast : List Str := ["ratios", "least", "place", "ratio"]
theorem scLeast : FnScope nLeast ["ratios"] (defScope sLeast) := ⟨rfl, rfl, rfl, by decide +kernel, rfl, by decide +kernel, by decide +kernel⟩
theorem ok_least (G : Glob mg) (R : RatF K C) (MB : Met1 P w K mg base C "is_below" 6 (spBelF C)) (F : DefAt K "_least_place" "_least_place" sLeast f fd) : FnOk P w K mg base CX0 7 f fd ["ratios"] (spLeast C) := by
  obtain ⟨fb, fdb, MB, bB, GB⟩ := MB.h
  refine okN F scLeast (fun vs H Q E ⟨l, as, zs, d, e, _⟩ => by rw [e]; rfl) (fun cdv A outer s H vs Q E hr ⟨l, as, zs, d, e, hl, al, sm, l50, q⟩ => ?_)
  subst e
  refine ⟨_, pss_cons (ps_set (i := 1) scLeast.nd rfl (Or.inl rfl) pe_int)
    (pss_cons (ps_for PassesOwn.never rfl (pi_enum (by rfl) G.enum (pa_cons (pv 0) pa_nil)) (pg_tup (by rfl) (pgs_cons (pg_name (i := 2) scLeast.nd rfl (Or.inl rfl)) (pgs_cons (pg_name (i := 3) scLeast.nd rfl (Or.inl rfl)) pgs_nil)))
      (pss_one (ps_if (pt_val (pe_meth (E := E0) (pv 3) R.cl MB GB hr bB .nil pass0 (pa_cons (pe_ix (r := rIxL K) ix_list (pv 0) (pv 1) (fun _ _ => rfl)) pa_nil))) (pss_one (ps_set (i := 1) scLeast.nd rfl (Or.inl rfl) (pv 2))) pss_nil)))
    (pss_one (ps_ret (pv 1)))), ?_⟩
  have sz : sizeLine = 16777216 := sizeLine_eq
  have la := al.1
  refine ⟨_, rfl, l, _, rfl, SqL.of hl, ?_⟩
  refine for_it (walk_enum (xs := as.map V.ref)) (fun i σ H7 => ∃ (m : Nat) (z2 z3 : Option V), σ = [some (V.ref l), some (.int m), z2, z3] ∧ Same H H7 ∧ ((i = 0 ∧ m = 0) ∨ (m < i ∧ LeastAt (zs.take i) m)))
    ⟨0, none, none, rfl, Same.refl _, .inl ⟨rfl, rfl⟩⟩ (fun i σ H7 _ ⟨_, _, _, _, s7, _⟩ => SqL.of (s7 _ _ hl)) ?_ ?_
  · rintro i v σ H7 H8 hi ⟨m, z2, z3, rfl, s7, inv⟩ ⟨T, x, y, rfl, nT, rfl, ex, ey⟩
    cases ex
    obtain ⟨b, eb, rfl⟩ := map_at ey
    obtain ⟨z, ez, hb⟩ := al.get eb
    have li := (List.getElem?_eq_some_iff.mp ez).1
    have s8 := upd_new (o := .tup [.int (i : Nat), .ref b]) nT
    have hT : upd H7 T (.tup [.int (i : Nat), .ref b]) T = some (.tup [.int (i : Nat), .ref b]) := upd_same
    generalize upd H7 T (.tup [.int (i : Nat), .ref b]) = H8 at s8 hT ⊢
    have s78 := s7.trans s8
    have lm : m < zs.length := by rcases inv with z | z <;> omega
    obtain ⟨zm, ezm⟩ : ∃ zm, zs[m]? = some zm := ⟨_, List.getElem?_eq_getElem lm⟩
    obtain ⟨am, eam, ham⟩ := al.getR ezm
    have hb8 := Frc.same s78 hb
    have ham8 := Frc.same s78 ham
    obtain ⟨dx, hbx⟩ := id hb8
    refine ⟨T, _, rfl, SqT.of hT, rfl, _, _, rfl, _, _, rfl, rfl, ?_⟩
    refine ⟨_, rfl, b, dx, _, rfl, hbx, no_below _ _, _, rfl, _, rfl, l, _, (m : Int), .ref am, rfl, rfl, SqL.of (s78 _ _ hl), atI_nat (by rw [List.getElem?_map, eam]; rfl), b, _, z, d, zm, d, rfl, hb8, .inl ⟨am, rfl, ham8⟩, sm z (List.mem_of_getElem? ez), sm zm (List.mem_of_getElem? ezm), fun H9 s9 => ⟨_, rfl, ?_⟩⟩
    have d0 := (sm z (List.mem_of_getElem? ez)).d0
    have cmp : z * d < zm * d ↔ z < zm := ⟨fun h => Int.lt_of_mul_lt_mul_right h (Int.le_of_lt d0), fun h => Int.mul_lt_mul_of_pos_right h d0⟩
    have lt : (zs.take i).length = i := by rw [List.length_take]; omega
    have s79 := s78.trans s9
    by_cases c : z < zm
    · rw [decide_eq_true (cmp.mpr c)]
      refine iteT ⟨_, rfl, i, _, _, rfl, s79, .inr ⟨by omega, ?_⟩⟩
      rcases inv with ⟨rfl, rfl⟩ | ⟨mi, le⟩
      · rw [ez] at ezm
        cases ezm
        exact absurd c (by omega)
      · have := least_new le (by rw [List.getElem?_take_of_lt mi]; exact ezm) c
        rw [take_more ez]
        rwa [lt] at this
    · rw [decide_eq_false fun h => c (cmp.mp h)]
      refine iteF ⟨m, _, _, rfl, s79, .inr ⟨by omega, ?_⟩⟩
      rcases inv with ⟨rfl, rfl⟩ | ⟨mi, le⟩
      · rw [take_more ez]
        exact least_one z
      · rw [take_more ez]
        exact least_old le (by rw [List.getElem?_take_of_lt mi]; exact ezm) c
  · rintro σ H7 ⟨m, z2, z3, rfl, s7, inv⟩
    rw [List.length_map, la] at inv
    refine ⟨_, rfl, q m H7 s7 ?_⟩
    rcases inv with ⟨e, rfl⟩ | ⟨_, le⟩
    · exact .inl ⟨List.length_eq_zero_iff.mp e, rfl⟩
    · rw [List.take_of_length_le (Nat.le_refl _)] at le
      exact .inr le
end
end K5

/-! k44: begun_at. -/
namespace K5
open PySem PySem.Spec PyProof.Rows L2 LamX K1 K18 HT

theorem eqv_lI (a b : List Int) : PyData.eqv (.list (a.map PyData.int)) (.list (b.map PyData.int)) = decide (a = b) := by
  rw [PyData.eqv]
  exact eqvAll_map (f := PyData.int) (fun a b => by
    simp only [PyData.eqv]
    by_cases h : a = b
    · subst h; simp
    · simp [h]) a b
/-- no row: odd, or not each number once -/
def NoRow (K : PySem.W.Frag) (H : Hp) (v : V) : Prop := OddRow K H v ∨ ∃ (b : Addr) (js : List Int), v = .ref b ∧ SqA H b (js.map V.int) ∧ js.length ≤ 1000 ∧ ¬ js.Perm (nI (List.range js.length))
/-- no place of a row of l -/
def NoStart (K : PySem.W.Frag) (H : Hp) (l : Nat) (v : V) : Prop := NotInt K H v ∨ ∃ n : Int, v = .int n ∧ ¬ (0 ≤ n ∧ n ≤ ((l - 1 : Nat) : Int))
def spBegunAt (K : PySem.W.Frag) (CB CU : Addr) : Sp := fun vs H Q E => ∃ v st, vs = [v, st] ∧ ((NoRow K H v ∧ ∀ d H', ToldF H H' d [("part", .str "row")] → E (.ref CB) (some d) H') ∨
  ∃ (b : Addr) (ks : List Nat), v = .ref b ∧ SqA H b (kV ks) ∧ ks.Perm (List.range ks.length) ∧ ks.length ≤ 1000 ∧
    ((NoStart K H ks.length st ∧ ∀ d H', ToldF H H' d [("part", .str "start")] → E (.ref CU) (some d) H') ∨ ∃ j : Nat, st = .int j ∧ j ≤ ks.length - 1 ∧ ∀ t H', Same H H' → H' t = some (.tup (kV (begun ks j))) → Q (.ref t) H'))
section
variable {P : Program} {w : World} {K : PySem.W.Frag} {mg : Str → Option Value} {base : Heap} {f CB CU : Addr} {fd : FuncData}
theorem scBegunAt : FnScope ["row", "start"] ["row", "start"] (defScope sBegun) := ⟨rfl, rfl, rfl, by decide +kernel, rfl, by decide +kernel, by decide +kernel⟩
theorem ok_begunAt (G : Glob mg) (HI : HasAreInts P w K mg base) (HW : HasWithin P w K mg base) (B : ErrR P w K mg base CB "BadRow" ["part"]) (BN : ErrR P w K mg base CU "BadNumber" ["part"]) (F : DefAt K "begun_at" "begun_at" sBegun f fd) :
    FnOk P w K mg base (L2.CX P w) 4 f fd ["row", "start"] (spBegunAt K CB CU) := by
  obtain ⟨fi, fdi, mI, kI, bI, GI⟩ := HI.h
  obtain ⟨fw, fdw, mW, kW, bW, GW⟩ := HW.h
  refine okX F scBegunAt (fun vs H Q E ⟨v, st, e, _⟩ => by rw [e]; rfl) (fun cdv A outer s H vs Q E hr ⟨v, st, e, h⟩ => ?_)
  subst e
  have tk : Takes (cxOf (L2.CX P w) P w K mg base ["row", "start"] "begun_at" (defScope sBegun) f cdv A outer s H E) (fun cls d _ H' => E cls d H') := takes_of rfl rfl rfl rfl
  have hu64 : (A.deeper (envOfC "begun_at" (defScope sBegun) s.heap.objs.size f cdv)).units + 64 < cLine := by have := hr.un; omega
  have r2 := hr.mono (show 2 ≤ 3 by decide)
  refine ⟨_, pss_cons (ps_if (PW.pt (pw_or (pt_not (pt_val (pe_call GI r2 rfl mI kI bI .nil pass0 (pa_cons (pv 0) pa_nil)))) (pw_or1 (pt_cmpR (op_neD hu64)
        (pe_callB cr_sortedI (by rfl) G.sorted (by decide +kernel) (pa_cons (pe_callTy call_list_of (by rfl) G.lst (by decide +kernel) (pa_cons (pv 0) pa_nil)) pa_nil))
        (pe_listRg rfl (by rfl) G.lst (prg_1 (by rfl) G.range (pe_callB (r := rLenA K) (call_lenA rfl) (by rfl) G.len PySem.boot_len (pa_cons (pv 0) pa_nil)))) (nomark _)))))
      (pss_one (ps_rs B rfl tk r2 (pa_cons pe_str pa_nil))) pss_nil)
    (pss_cons (ps_if (pt_not (pt_val (pe_call GW r2 rfl mW kW bW .nil pass0 (pa_cons (pv 1) (pa_cons pe_int (pa_cons (pe_callB (call_max2 rfl) (by rfl) G.max (by decide +kernel) (pa_cons pe_int (pa_cons (pe_op op_sub (pe_callB (r := rLenA K) (call_lenA rfl) (by rfl) G.len PySem.boot_len (pa_cons (pv 0) pa_nil)) pe_int) pa_nil))) pa_nil))))))
      (pss_one (ps_rs BN rfl tk r2 (pa_cons pe_str pa_nil))) pss_nil)
    (pss_one (ps_ret (pe_callTy (r := rTupK K) (call_tupK rfl) (by rfl) G.tup (by decide +kernel) (pa_cons (pe_lst (StX.pa_star (pe_slice (r := rSlA K) (sl_any rfl) (pv 0) (po_some (pv 1)) po_none) (StX.pa_star (pe_slice (r := rSlA K) (sl_any rfl) (pv 0) po_none (po_some (pv 1))) pa_nil))) pa_nil))))), ?_⟩
  have sz : sizeLine = 16777216 := sizeLine_eq
  rcases h with ⟨bad, q⟩ | ⟨b, ks, rfl, sq0, pm, l1000, h⟩
  · rcases bad with (ns | ⟨a, xs, bs, rfl, sq, l, ib, al⟩) | ⟨b, js, rfl, sq, lj, np⟩
    · exact ⟨_, rfl, v, rfl, .inl ⟨ns, fun H1 s1 => ⟨false, rfl, iteT (iteT (rs_c fun d H' t => q d H' (t.from s1)))⟩⟩⟩
    · exact ⟨_, rfl, _, rfl, .inr ⟨a, xs, bs, rfl, sq, l, ib, fun H1 s1 => ⟨false, by rw [al], iteT (iteT (rs_c fun d H' t => q d H' (t.from s1)))⟩⟩⟩
    · refine ⟨_, rfl, _, rfl, .inr ⟨b, _, _, rfl, sq, by rw [List.length_map]; exact lj, IBs.ints js, fun H1 s1 => ⟨true, by simp, iteF ?_⟩⟩⟩
      refine ⟨_, rfl, b, _, rfl, (sq.same s1).imp SqL.of SqT.of, fun l nl => ?_⟩
      have s2 := upd_new (o := .lst ((js).map V.int)) nl
      have hl : upd H1 l (.lst ((js).map V.int)) l = some (.lst ((js).map V.int)) := upd_same
      generalize upd H1 l (.lst ((js).map V.int)) = H2 at s2 hl ⊢
      refine ⟨l, js, rfl, SqL.of hl, fun ms p pms srt npp => ?_⟩
      have s3 := upd_new (o := .lst (ms.map V.int)) npp
      have hp : upd H2 p (.lst (ms.map V.int)) p = some (.lst (ms.map V.int)) := upd_same
      generalize upd H2 p (.lst (ms.map V.int)) = H3 at s3 hp ⊢
      refine ⟨_, rfl, b, _, rfl, ((sq.same s1).same (s2.trans s3)).imp SqL.of SqT.of, ?_⟩
      rw [show (((js).map V.int).length : Int) = ((js.length : Nat) : Int) by simp]
      refine ⟨_, rfl, RgOk.of_le (by decide) (by omega) (by decide) (by omega), fun r nr => ?_⟩
      have s4 := upd_new (o := .lst (rgV 0 ((js.length : Nat) : Int))) nr
      have hr4 : upd H3 r (.lst (rgV 0 ((js.length : Nat) : Int))) r = some (.lst ((nI (List.range js.length)).map V.int)) := by rw [upd_same, rg0, kV_eq]
      generalize upd H3 r (.lst (rgV 0 ((js.length : Nat) : Int))) = H4 at s4 hr4 ⊢
      have sAll := ((s1.trans s2).trans s3).trans s4
      refine ⟨.list (ms.map PyData.int), .list ((nI (List.range js.length)).map PyData.int), .lst (SqL.of (s4 _ _ hp)) (dps_I ms), .lst (SqL.of hr4) (dps_I _), sh_lI _, sh_lI _, true, ?_, iteT (rs_c fun d H' t => q d H' (t.from sAll))⟩
      refine congrArg V.bl ?_
      rw [eqv_lI, decide_eq_false (fun z => np ((sorted_row pms srt).mp z))]
      rfl
  have sq : SqA H b ((nI ks).map V.int) := by rw [← kV_eq]; exact sq0
  have lks : (nI ks).length = ks.length := List.length_map _
  refine ⟨_, rfl, _, rfl, .inr ⟨b, _, _, rfl, sq, by rw [List.length_map, lks]; exact l1000, IBs.ints (nI ks), fun H1 s1 => ⟨true, by simp, iteF ?_⟩⟩⟩
  refine ⟨_, rfl, b, _, rfl, (sq.same s1).imp SqL.of SqT.of, fun l nl => ?_⟩
  have s2 := upd_new (o := .lst ((nI ks).map V.int)) nl
  have hl : upd H1 l (.lst ((nI ks).map V.int)) l = some (.lst ((nI ks).map V.int)) := upd_same
  generalize upd H1 l (.lst ((nI ks).map V.int)) = H2 at s2 hl ⊢
  refine ⟨l, nI ks, rfl, SqL.of hl, fun ms p pms srt npp => ?_⟩
  have s3 := upd_new (o := .lst (ms.map V.int)) npp
  have hp : upd H2 p (.lst (ms.map V.int)) p = some (.lst (ms.map V.int)) := upd_same
  generalize upd H2 p (.lst (ms.map V.int)) = H3 at s3 hp ⊢
  refine ⟨_, rfl, b, _, rfl, ((sq.same s1).same (s2.trans s3)).imp SqL.of SqT.of, ?_⟩
  rw [show (((nI ks).map V.int).length : Int) = ((ks.length : Nat) : Int) by simp]
  refine ⟨_, rfl, RgOk.of_le (by decide) (by omega) (by decide) (by omega), fun r nr => ?_⟩
  have s4 := upd_new (o := .lst (rgV 0 ((ks.length : Nat) : Int))) nr
  have hr4 : upd H3 r (.lst (rgV 0 ((ks.length : Nat) : Int))) r = some (.lst ((nI (List.range ks.length)).map V.int)) := by rw [upd_same, rg0, kV_eq]
  generalize upd H3 r (.lst (rgV 0 ((ks.length : Nat) : Int))) = H4 at s4 hr4 ⊢
  have sAll := ((s1.trans s2).trans s3).trans s4
  refine ⟨.list (ms.map PyData.int), .list ((nI (List.range ks.length)).map PyData.int), .lst (SqL.of (s4 _ _ hp)) (dps_I ms), .lst (SqL.of hr4) (dps_I _), sh_lI _, sh_lI _, false, ?_, iteF ?_⟩
  · refine congrArg V.bl ?_
    rw [eqv_lI, decide_eq_true ((sorted_row pms srt).mpr (pm.map _))]
    rfl
  have sq4 := sq0.same sAll
  refine ⟨_, rfl, _, rfl, b, _, rfl, sq4.imp SqL.of SqT.of, _, _, rfl, rfl, 0, _, rfl, ?_⟩
  have mx : (if (((kV ks).length : Nat) : Int) - 1 > 0 then (((kV ks).length : Nat) : Int) - 1 else 0) = ((ks.length - 1 : Nat) : Int) := by
    rw [kV_len]
    split <;> omega
  rw [mx]
  rcases h with ⟨bad, q⟩ | ⟨j, rfl, hj, q⟩
  · rcases bad with ni | ⟨n, rfl, out⟩
    · exact ⟨st, 0, _, rfl, .inl ⟨ni.same sAll, false, rfl, iteT (rs_c fun d H' t => q d H' (t.from sAll))⟩⟩
    · refine ⟨_, 0, _, rfl, .inr ⟨n, rfl, false, congrArg V.bl ?_, iteT (rs_c fun d H' t => q d H' (t.from sAll))⟩⟩
      rw [Bool.and_eq_false_iff]
      by_cases z : 0 ≤ n
      · exact .inr (decide_eq_false fun y => out ⟨z, y⟩)
      · exact .inl (decide_eq_false z)
  refine ⟨_, 0, _, rfl, .inr ⟨(j : Int), rfl, true, congrArg V.bl ?_, iteF ?_⟩⟩
  · rw [decide_eq_true (show (0 : Int) ≤ (j : Int) by omega), decide_eq_true (show (j : Int) ≤ ((ks.length - 1 : Nat) : Int) by omega)]
    rfl
  have jl : j ≤ ks.length := by omega
  refine ⟨_, rfl, _, rfl, _, rfl, ?_⟩
  refine from_of sq4 jl fun e1 H5 s5 sq5 => ?_
  refine ⟨e1, _, rfl, sq5.symm.imp SqT.of SqL.of, ?_⟩
  refine ⟨_, rfl, _, rfl, _, rfl, ?_⟩
  refine first_of (sq4.same s5) jl fun e2 H6 s6 sq6 _ => ?_
  refine ⟨e2, _, rfl, sq6.symm.imp SqT.of SqL.of, ?_⟩
  have s46 := s5.trans s6
  have ap : kV (begun ks j) = kV (ks.drop j) ++ kV (ks.take j) := kV_app _ _
  refine ⟨?_, fun l5 nl5 => ?_⟩
  · rw [List.append_nil, ← ap, kV_len]
    unfold begun
    rw [List.length_append, List.length_drop, List.length_take]
    omega
  rw [List.append_nil, ← ap]
  have s7 := upd_new (o := .lst (kV (begun ks j))) nl5
  exact ⟨l5, _, rfl, .inl ⟨SqL.of upd_same, fun t nt => q t _ ((sAll.trans s46).trans (s7.trans (upd_new nt))) upd_same⟩⟩
end
end K5

/-! k44: spared, bound_to. -/
namespace K5
open PySem PySem.Spec PyProof.Rows L2 LamX K1 K18 K4

theorem AskW.imp {K : PySem.W.Frag} {C CH CS CW CB CN CL : Addr} {u v x : V} {H : Hp} {E : XK} {good good' : Addr → List Str → List Hnd → List Nat → Str → Prop} (h : AskW K C CH CS CW CB CN CL u v x H E good)
    (f : ∀ a ns hs ks n, HnSm hs → hs.length ≤ 50 → ks.Perm (List.range hs.length) → good a ns hs ks n → good' a ns hs ks n) : AskW K C CH CS CW CB CN CL u v x H E good' := by
  rcases h with h | ⟨a, ns, hs, e, ha, ok, sm, l, h⟩
  · exact .inl h
  · refine .inr ⟨a, ns, hs, e, ha, ok, sm, l, ?_⟩
    rcases h with h | ⟨b, ks, e2, sq, pm, w⟩
    · exact .inl h
    · refine .inr ⟨b, ks, e2, sq, pm, StrW.go (Same.refl H) w fun n _ z => ?_⟩
      exact z.imp id fun ⟨a1, a2⟩ => ⟨a1, f a ns hs ks n sm l pm a2⟩
theorem absZ_sm {hs : List Hnd} {ks : List Nat} {n : Str} (sm : HnSm hs) (l : hs.length ≤ 50) (lk : ks.length ≤ 50) : ∀ z ∈ absZ hs ks n, SmF z (dZ ks.length) := fun z hz => by
  obtain ⟨t, ht, rfl⟩ := List.mem_map.mp hz
  have ht := List.mem_range.mp ht
  have be := effs_small sm (l := ks.take t) (by rw [List.length_take]; omega) n
  have bn := net_small sm l n
  have b1 : (net hs n * (t : Int)).natAbs ≤ 2 ^ 26 * 50 := by
    rw [Int.natAbs_mul]
    exact Nat.mul_le_mul (Nat.le_of_lt bn) (show (t : Int).natAbs ≤ 50 by omega)
  have b2 : (effs hs (ks.take t) n * (6 * 1 * (ks.length : Int))).natAbs ≤ 2 ^ 26 * 300 := by
    rw [Int.natAbs_mul]
    exact Nat.mul_le_mul (Nat.le_of_lt be) (show (6 * 1 * (ks.length : Int)).natAbs ≤ 300 by omega)
  refine ⟨?_, by unfold dZ; omega, by unfold dZ; omega⟩
  unfold abZ
  omega
/-- what spared and bound_to give: g of the distances, its first least -/
def spAsk (K : PySem.W.Frag) (C CH CS CW CB CN CL : Addr) (g : List Int → List Int) : Sp := fun vs H Q E => ∃ u v x, vs = [u, v, x] ∧ AskW K C CH CS CW CB CN CL u v x H E fun _ _ hs ks n => ∀ (t : Addr) (i : Nat) H', Same H H' → ((ks = [] ∧ i = 0) ∨ LeastAt (g (absZ hs ks n)) i) →
  H' t = some (.tup (kV (begun ks i))) → Q (.ref t) H'
section
variable {P : Program} {w : World} {K : PySem.W.Frag} {mg : Str → Option Value} {base : Heap} {f C CH CS CW CB CD CI CT CU CM CN CL : Addr} {fd : FuncData}
abbrev HasAbove (P : Program) (w : World) (K : PySem.W.Frag) (mg : Str → Option Value) (base : Heap) (C CH CS CW CB CN CL : Addr) : Prop := Has P w K mg base (L2.CX P w) 10 "_above_road" ["swap", "row", "name"] (spAbove K C CH CS CW CB CN CL)
abbrev HasLeast (P : Program) (w : World) (K : PySem.W.Frag) (mg : Str → Option Value) (base : Heap) (C : Addr) : Prop := Has P w K mg base CX0 7 "_least_place" ["ratios"] (spLeast C)
abbrev HasBegunAt (P : Program) (w : World) (K : PySem.W.Frag) (mg : Str → Option Value) (base : Heap) (CB CU : Addr) : Prop := Has P w K mg base (L2.CX P w) 4 "begun_at" ["row", "start"] (spBegunAt K CB CU)
abbrev nSpared : List Str := ["swap", "row", "name", "told", "above"]
theorem scSpared : FnScope nSpared ["swap", "row", "name"] (defScope sSpared) := ⟨rfl, rfl, rfl, by decide +kernel, rfl, by decide +kernel, by decide +kernel⟩
theorem begun_in {hs : List Hnd} {ks : List Nat} {n : Str} {g : List Int → List Int} (gl : ∀ l, (g l).length = l.length) {i : Nat} (h : (g (absZ hs ks n) = [] ∧ i = 0) ∨ LeastAt (g (absZ hs ks n)) i) : ((ks = [] ∧ i = 0) ∨ LeastAt (g (absZ hs ks n)) i) ∧ i ≤ ks.length - 1 := by
  have lz : (absZ hs ks n).length = ks.length := by unfold absZ; rw [List.length_map, List.length_range]
  rcases h with ⟨e, rfl⟩ | h
  · refine ⟨.inl ⟨List.length_eq_zero_iff.mp ?_, rfl⟩, Nat.zero_le _⟩
    rw [← lz, ← gl, e]
    rfl
  · refine ⟨.inr h, ?_⟩
    obtain ⟨z, e, _⟩ := h
    have := (List.getElem?_eq_some_iff.mp e).1
    rw [gl, lz] at this
    omega
theorem ok_spared (HA : HasAbove P w K mg base C CH CS CW CB CN CL) (HL : HasLeast P w K mg base C) (HB : HasBegunAt P w K mg base CB CU) (F : DefAt K "spared" "spared" sSpared f fd) :
    FnOk P w K mg base (L2.CX P w) 11 f fd ["swap", "row", "name"] (spAsk K C CH CS CW CB CN CL id) := by
  obtain ⟨fa, fda, mA, kA, bA, GA⟩ := HA.h
  obtain ⟨fl, fdl, mL, kL, bL, GL⟩ := HL.h
  obtain ⟨fb, fdb, mB, kB, bB, GB⟩ := HB.h
  refine okX F scSpared (fun vs H Q E ⟨u, v, x, e, _⟩ => by rw [e]; rfl) (fun cdv A outer s H vs Q E hr ⟨u, v, x, e, h⟩ => ?_)
  subst e
  have tk : Takes (cxOf (L2.CX P w) P w K mg base nSpared "spared" (defScope sSpared) f cdv A outer s H E) (fun cls d _ H' => E cls d H') := takes_of rfl rfl rfl rfl
  have ps := passes_call tk (E := E) fun _ _ _ _ z => z
  refine ⟨_, pss_cons (ps_asg (pe_call GA hr rfl mA kA bA .nil ps (pa_cons (pv 0) (pa_cons (pv 1) (pa_cons (pv 2) pa_nil)))) (pg_tup (by rfl) (pgs_cons (pg_name (i := 3) scSpared.nd rfl (Or.inl rfl)) (pgs_cons (pg_name (i := 4) scSpared.nd rfl (Or.inl rfl)) pgs_nil))))
    (pss_one (ps_ret (pe_call GB (hr.mono (by decide)) rfl mB kB bB .nil ps (pa_cons (pv 3) (pa_cons (pe_call GL (hr.mono (by decide)) rfl mL kL bL .nil pass0 (pa_cons (pv 4) pa_nil)) pa_nil))))), ?_⟩
  refine ⟨_, rfl, _, rfl, _, rfl, u, v, x, rfl, AskW.imp h fun a ns hs ks n sm l50 pm q t H1 s1 at_ => ?_⟩
  have lk := pm.length_eq
  rw [List.length_range] at lk
  obtain ⟨tt, ab, as, h1, h2, h3, al⟩ := at_
  refine ⟨t, _, rfl, SqT.of h1, rfl, _, _, rfl, _, _, rfl, rfl, ?_⟩
  refine ⟨_, rfl, _, rfl, ab, as, absZ hs ks n, dZ ks.length, rfl, h3, al, absZ_sm sm l50 (by omega), (by unfold absZ; rw [List.length_map, List.length_range]; omega), fun i H2 s2 hi => ?_⟩
  obtain ⟨hi, il⟩ := begun_in (g := id) (fun _ => rfl) hi
  refine ⟨_, _, rfl, .inr ⟨tt, ks, rfl, .inr (s2 _ _ h2), by rw [lk]; exact pm, by omega, .inr ⟨i, rfl, il, fun r H3 s3 h => q r i H3 ((s1.trans s2).trans s3) hi h⟩⟩⟩
abbrev nBound : List Str := ["swap", "row", "name", "told", "above", "amount"]
theorem scBound : FnScope nBound ["swap", "row", "name"] (defScope sBound) := ⟨rfl, rfl, rfl, by decide +kernel, rfl, by decide +kernel, by decide +kernel⟩
abbrev negs (l : List Int) : List Int := l.map fun z => -z
theorem ok_bound (R : RatF K C) (HA : HasAbove P w K mg base C CH CS CW CB CN CL) (HL : HasLeast P w K mg base C) (HB : HasBegunAt P w K mg base CB CU) (ON : Own P w K mg base C CX0 4 "__neg__" ["self"] (spNegF C)) (F : DefAt K "bound_to" "bound_to" sBound f fd) :
    FnOk P w K mg base (L2.CX P w) 11 f fd ["swap", "row", "name"] (spAsk K C CH CS CW CB CN CL negs) := by
  obtain ⟨fa, fda, mA, kA, bA, GA⟩ := HA.h
  obtain ⟨fl, fdl, mL, kL, bL, GL⟩ := HL.h
  obtain ⟨fb, fdb, mB, kB, bB, GB⟩ := HB.h
  obtain ⟨fn, fdn, MN, bN, GN⟩ := ON.h
  refine okX F scBound (fun vs H Q E ⟨u, v, x, e, _⟩ => by rw [e]; rfl) (fun cdv A outer s H vs Q E hr ⟨u, v, x, e, h⟩ => ?_)
  subst e
  have tk : Takes (cxOf (L2.CX P w) P w K mg base nBound "bound_to" (defScope sBound) f cdv A outer s H E) (fun cls d _ H' => E cls d H') := takes_of rfl rfl rfl rfl
  have ps := passes_call tk (E := E) fun _ _ _ _ z => z
  refine ⟨_, pss_cons (ps_asg (pe_call GA hr rfl mA kA bA .nil ps (pa_cons (pv 0) (pa_cons (pv 1) (pa_cons (pv 2) pa_nil)))) (pg_tup (by rfl) (pgs_cons (pg_name (i := 3) scBound.nd rfl (Or.inl rfl)) (pgs_cons (pg_name (i := 4) scBound.nd rfl (Or.inl rfl)) pgs_nil))))
    (pss_one (ps_ret (pe_call GB (hr.mono (by decide)) rfl mB kB bB .nil ps (pa_cons (pv 3) (pa_cons (pe_call GL (hr.mono (by decide)) rfl mL kL bL .nil pass0 (pa_cons
      (pe_lc (own := [("amount", 5)]) (g := gName 5) (tt := tYes) rfl scBound.nd (pi_list (pv 4)) (blkOk_by (N := nBound) (sc := defScope sBound) (by decide +kernel)) (fun _ _ _ _ _ => pg_name (i := 5) scBound.nd rfl (Or.inl rfl)) (fun _ _ _ _ _ => pts_nil)
        (fun _ _ _ _ _ => pe_un (un_own (E := E0) MN GN (hr.mono (by decide)) bN pass0) (pv 5))) pa_nil)) pa_nil))))), ?_⟩
  have sz : sizeLine = 16777216 := sizeLine_eq
  refine ⟨_, rfl, _, rfl, _, rfl, u, v, x, rfl, AskW.imp h fun a ns hs ks n sm l50 pm q t H1 s1 at_ => ?_⟩
  have lk := pm.length_eq
  rw [List.length_range] at lk
  have lz : (absZ hs ks n).length = ks.length := by unfold absZ; rw [List.length_map, List.length_range]
  obtain ⟨tt, ab, as, h1, h2, h3, al⟩ := at_
  have smz := absZ_sm (n := n) sm l50 (ks := ks) (by omega)
  refine ⟨t, _, rfl, SqT.of h1, rfl, _, _, rfl, _, _, rfl, rfl, ?_⟩
  refine ⟨_, rfl, _, rfl, ab, rfl, ⟨_, SqL.of h3⟩, fun D hD => ?_⟩
  refine lc_list (xs := as.map V.ref) (fun i H2 => Same H1 H2 ∧ ∃ bs, H2 D = some (.lst (bs.map V.ref)) ∧ All2 (fun a z => Frc C H2 a z (dZ ks.length)) bs (negs ((absZ hs ks n).take i))) ⟨upd_new hD, [], upd_same, .nil⟩ (fun i H2 _ z => SqL.of (z.1 _ _ h3)) ?_ ?_
  · rintro i y H2 hy ⟨s2, bs, hd, bl⟩
    obtain ⟨b, eb, rfl⟩ := map_at hy
    obtain ⟨z, ez, hb⟩ := al.get eb
    have hb2 := Frc.same s2 hb
    obtain ⟨dx, hbx⟩ := id hb2
    have li := (List.getElem?_eq_some_iff.mp ez).1
    refine ⟨rfl, yes_of ⟨_, rfl, b, dx, _, rfl, hbx, b, z, _, rfl, hb2, smz z (List.mem_of_getElem? ez), fun p H3 s3 np hp => ?_⟩⟩
    have hd3 := s3 _ _ hd
    have lb := bl.1
    rw [List.length_map, List.length_take] at lb
    refine ⟨_, hd3, by rw [List.length_map]; omega, same_upd hD (s2.trans s3), bs ++ [p], by rw [upd_same, List.map_append]; rfl, ?_⟩
    rw [take_more ez, negs, List.map_append]
    exact All2.snoc (bl.mono fun u v z => frc_upd hd3 (z.same s3)) (frc_upd hd3 hp)
  rintro H2 ⟨s2, bs, hd, bl⟩
  rw [List.length_map, al.1, List.take_length] at bl
  refine ⟨D, bs, negs (absZ hs ks n), dZ ks.length, rfl, hd, bl, fun z hz => ?_, (by rw [List.length_map, lz]; omega), fun i H3 s3 hi => ?_⟩
  · obtain ⟨y, hy, rfl⟩ := List.mem_map.mp hz
    obtain ⟨b1, b2, b3⟩ := smz y hy
    exact ⟨by omega, b2, b3⟩
  obtain ⟨hi, il⟩ := begun_in (g := negs) (fun _ => List.length_map _) hi
  have s23 := s2.trans s3
  refine ⟨_, _, rfl, .inr ⟨tt, ks, rfl, .inr (s23 _ _ h2), by rw [lk]; exact pm, by omega, .inr ⟨i, rfl, il, fun r H4 s4 h => q r i H4 ((s1.trans s23).trans s4) hi h⟩⟩⟩
end
end K5

/-! k44: what stays when tables grow, while the pen turns. -/
namespace K5
open PySem PySem.Spec PyProof.Rows L2 LamX K1 K18

theorem tabs_same {T : List (Addr × Str)} {H H' : Hp} (s : Same H H') (t : Tabs T H) : Tabs T H' := fun p hp => (t p hp).ext s
theorem Pen.tabs {T : List (Addr × Str)} {H H' : Hp} {p c : Addr} {n : Nat} (pn : Pen H p c n) (k : Keep p H H') (t : Tabs T H) : Tabs T H' := fun q hq => by
  obtain ⟨cs, tt, r, x, _⟩ := pn
  obtain ⟨ps, h1, h2, h3⟩ := t q hq
  refine ⟨ps, k _ _ (ne_of h1 x (by intro z; cases z)) h1, h2, fun pos cv hc => ?_⟩
  obtain ⟨c', e1, e2⟩ := h3 pos cv hc
  exact ⟨c', e1, k _ _ (ne_of e2 x (fun z => nomatch z)) e2⟩
theorem Same.extN {H H' : Hp} (s : Same H H') : ExtN H H' := fun b o e _ => s b o e
/-- all but the pen's list and tables -/
def KeepN (p : Addr) (H H' : Hp) : Prop := ∀ b o, b ≠ p → H b = some o → (∀ ps, o ≠ .tbl ps) → H' b = some o
theorem KeepN.trans {p : Addr} {H H1 H2 : Hp} (a : KeepN p H H1) (b : KeepN p H1 H2) : KeepN p H H2 := fun c o n e t => b c o n (a c o n e t) t
theorem ExtN.kn {p : Addr} {H H' : Hp} (x : ExtN H H') : KeepN p H H' := fun b o _ e n => x b o e n
theorem Keep.kn {p : Addr} {H H' : Hp} (k : Keep p H H') : KeepN p H H' := fun b o n e _ => k b o n e
theorem Same.kn {p : Addr} {H H' : Hp} (s : Same H H') : KeepN p H H' := fun b o _ e _ => s b o e
theorem Pen.extN {H H' : Hp} {p c : Addr} {n : Nat} (x : ExtN H H') (h : Pen H p c n) : Pen H' p c n := let ⟨cs, t, r, a, b, z⟩ := h; ⟨cs, t, r, x _ _ a (fun _ z => nomatch z), x _ _ b (fun _ z => nomatch z), z⟩
/-- no list stands here -/
def Off (p : Addr) (H : Hp) : Prop := ∃ xs, H p = some (.lst xs)
theorem Pen.off {H : Hp} {p c : Addr} {n : Nat} (h : Pen H p c n) : Off p H := let ⟨_, _, _, x, _⟩ := h; ⟨_, x⟩
section
variable {K : PySem.W.Frag} {C CH CS p : Addr} {H H' : Hp} {a : Addr}
theorem kn_at {o : HO} (f : Off p H) (k : KeepN p H H') (h : H a = some o) (n : ∀ xs, o ≠ .lst xs) (n2 : ∀ ps, o ≠ .tbl ps) : H' a = some o := by
  obtain ⟨xs, e⟩ := f
  refine k a o (fun z => ?_) h n2
  rw [z, e] at h
  exact n xs (Option.some.inj h).symm
theorem TupZ.kn {xs : List V} (f : Off p H) (x : KeepN p H H') (h : TupZ H a xs) : TupZ H' a xs := let ⟨o, z1, z2⟩ := h; ⟨o, kn_at f x z1 (fun _ z => nomatch z) (fun _ z => nomatch z), z2⟩
theorem Six.kn {s : Int} (f : Off p H) (x : KeepN p H H') (h : Six C H a s) : Six C H' a s := let ⟨dx, z⟩ := h; ⟨dx, kn_at f x z (fun _ z => nomatch z) (fun _ z => nomatch z)⟩
theorem HandAt.kn {h : Hnd} (f : Off p H) (x : KeepN p H H') (k : HandAt C CH H a h) : HandAt C CH H' a h := let ⟨dx, pc, pd, z1, z2, z3⟩ := k; ⟨dx, pc, pd, kn_at f x z1 (fun _ z => nomatch z) (fun _ z => nomatch z), z2.kn f x, z3.kn f x⟩
theorem SwAt.kn {ns : List Str} {hs : List Hnd} (f : Off p H) (x : KeepN p H H') (h : SwAt C CH CS H a ns hs) : SwAt C CH CS H' a ns hs :=
  let ⟨dx, ps, ph, pn, as, nas, h1, h2, h3, h4, h5, h6⟩ := h
  ⟨dx, ps, ph, pn, as, nas, kn_at f x h1 (fun _ z => nomatch z) (fun _ z => nomatch z), h2.kn f x, kn_at f x h3 (fun _ z => nomatch z) (fun _ z => nomatch z), h4.mono fun _ _ z => z.kn f x, kn_at f x h5 (fun _ z => nomatch z) (fun _ z => nomatch z), h6.mono fun _ _ z => z.kn f x⟩
theorem RwL.kn {d : Addr} {rs : List Row} (f : Off p H) (dp : d ≠ p) (x : KeepN p H H') (h : RwL H d rs) : RwL H' d rs := let ⟨as, a, b⟩ := h; ⟨as, x _ _ dp a (fun _ z => nomatch z), b.mono fun _ _ z => kn_at f x z (fun _ z => nomatch z) (fun _ z => nomatch z)⟩
theorem SqA.kn {b : Addr} {xs : List V} (dp : b ≠ p) (x : KeepN p H H') (h : SqA H b xs) : SqA H' b xs := h.imp (fun z => x _ _ dp z fun _ z => nomatch z) fun z => x _ _ dp z fun _ z => nomatch z
theorem TyOf.kn {v : V} {t : Value} (np : v ≠ .ref p) (x : KeepN p H H') (h : TyOf K H v t) : TyOf K H' v t := by
  have q : ∀ {a : Addr}, V.ref a ≠ .ref p → a ≠ p := fun z e => z (by rw [e])
  cases h with
  | non => exact .non
  | bl b => exact .bl b
  | int i => exact .int i
  | str s => exact .str s
  | flt f => exact .flt f
  | lst e => exact .lst (x _ _ (q np) e (fun _ z => nomatch z))
  | frz e => exact .frz (x _ _ (q np) e (fun _ z => nomatch z))
  | tup e => exact .tup (x _ _ (q np) e (fun _ z => nomatch z))
  | dK e => exact .dK (x _ _ (q np) e (fun _ z => nomatch z))
  | dT e => exact .dT (x _ _ (q np) e (fun _ z => nomatch z))
  | ins e cl ha hn htk hm => exact .ins (x _ _ (q np) e (fun _ z => nomatch z)) cl ha hn htk hm
end
theorem TyOf.extN {K : PySem.W.Frag} {H H' : Hp} {v : V} {t : Value} (x : ExtN H H') (h : TyOf K H v t) : TyOf K H' v t := by
  cases h with
  | non => exact .non
  | bl b => exact .bl b
  | int i => exact .int i
  | str s => exact .str s
  | flt f => exact .flt f
  | lst e => exact .lst (x _ _ e (fun _ z => nomatch z))
  | frz e => exact .frz (x _ _ e (fun _ z => nomatch z))
  | tup e => exact .tup (x _ _ e (fun _ z => nomatch z))
  | dK e => exact .dK (x _ _ e (fun _ z => nomatch z))
  | dT e => exact .dT (x _ _ e (fun _ z => nomatch z))
  | ins e cl ha hn htk hm => exact .ins (x _ _ e (fun _ z => nomatch z)) cl ha hn htk hm
/-- no list, table or pen in between: as ever -/
theorem SwAt.extN {C CH CS : Addr} {H H' : Hp} {a : Addr} {ns : List Str} {hs : List Hnd} (x : ExtN H H') (h : SwAt C CH CS H a ns hs) : SwAt C CH CS H' a ns hs := by
  obtain ⟨dx, ps, ph, pn, as, nas, h1, ⟨o, h2, h2'⟩, h3, h4, h5, h6⟩ := h
  have six : ∀ {b : Addr} {s : Int}, Six C H b s → Six C H' b s := fun ⟨d, z⟩ => ⟨d, x _ _ z (fun _ z => nomatch z)⟩
  exact ⟨dx, ps, ph, pn, as, nas, x _ _ h1 (fun _ z => nomatch z), ⟨o, x _ _ h2 (fun _ z => nomatch z), h2'⟩, x _ _ h3 (fun _ z => nomatch z), h4.mono fun _ _ ⟨dx, pc, pd, z1, z2, z3⟩ => ⟨dx, pc, pd, x _ _ z1 (fun _ z => nomatch z), six z2, six z3⟩, x _ _ h5 (fun _ z => nomatch z), h6.mono fun _ _ z => six z⟩
theorem SqA.extN {H H' : Hp} {a : Addr} {xs : List V} (x : ExtN H H') (h : SqA H a xs) : SqA H' a xs := h.imp (fun z => x _ _ z fun _ z => nomatch z) fun z => x _ _ z fun _ z => nomatch z
theorem NotInt.extN {K : PySem.W.Frag} {H H' : Hp} {v : V} (x : ExtN H H') (h : NotInt K H v) : NotInt K H' v := let ⟨t, c, a, b⟩ := h; ⟨t, c, TyOf.extN x a, b⟩
theorem IBs.extN {K : PySem.W.Frag} {H H' : Hp} {xs : List V} {bs : List Bool} (x : ExtN H H') (h : IBs K H xs bs) : IBs K H' xs bs :=
  ⟨h.1, fun i y e => let ⟨b, e1, z⟩ := h.2 i y e; ⟨b, e1, z.imp id fun z => ⟨z.1, NotInt.extN x z.2⟩⟩⟩
theorem OddRow.extN {K : PySem.W.Frag} {H H' : Hp} {v : V} (x : ExtN H H') (h : OddRow K H v) : OddRow K H' v := h.imp (fun ⟨t, ty, k⟩ => ⟨t, TyOf.extN x ty, k⟩) fun ⟨a, xs, bs, e, l, n, z1, z2⟩ => ⟨a, xs, bs, e, SqA.extN x l, n, IBs.extN x z1, z2⟩
theorem BadRowV.extN {K : PySem.W.Frag} {H H' : Hp} {m : Nat} {v : V} (x : ExtN H H') (h : BadRowV K H m v) : BadRowV K H' m v := h.imp (OddRow.extN x) fun ⟨b, js, e, sq, l, np⟩ => ⟨b, js, e, SqA.extN x sq, l, np⟩
theorem Strange.extN {K : PySem.W.Frag} {H H' : Hp} {ns : List Str} {v : V} (x : ExtN H H') (h : Strange K H ns v) : Strange K H' ns v := h.imp (fun ⟨t, ty, k⟩ => ⟨t, TyOf.extN x ty, k⟩) id
end K5

/-! k44: _law_fault. -/
namespace K5
open PySem PySem.Spec PyProof.Rows L2 LamX K1 K18

def exT (K : PySem.W.Frag) (a b : Addr) (r : Bool) : Prop := PySem.W.exmOne K (.ref a) (.ref b) = some r
/-- an error that is told -/
structure ErF (K : PySem.W.Frag) (mg : Str → Option Value) (x : Str) (C : Addr) : Prop where
  g : mg x = some (.ref C)
  e : ExcC K C
theorem ErF.xf {K : PySem.W.Frag} {mg : Str → Option Value} {x : Str} {C : Addr} (h : ErF K mg x C) : XfC K C := ⟨h.e.hg, h.e.hk, h.e.hs, h.e.hd⟩
structure Flt (K : PySem.W.Frag) (mg : Str → Option Value) (CW CB CU CN CL : Addr) : Prop where
  w : ErF K mg "BadSwap" CW
  b : ErF K mg "BadRow" CB
  u : ErF K mg "BadNumber" CU
  n : ErF K mg "NoStranger" CN
  l : ErF K mg "Loser" CL
  fw : PySem.W.findIn K (.ref CW) "part" = some none
  fb : PySem.W.findIn K (.ref CB) "part" = some none
  fu : PySem.W.findIn K (.ref CU) "part" = some none
  fn : PySem.W.findIn K (.ref CN) "name" = some none
  fl : PySem.W.findIn K (.ref CL) "name" = some none
  ww : exT K CW CW true
  bw : exT K CB CW false
  bb : exT K CB CB true
  uw : exT K CU CW false
  ub : exT K CU CB false
  uu : exT K CU CU true
  nw : exT K CN CW false
  nb : exT K CN CB false
  nu : exT K CN CU false
  nn : exT K CN CN true
  lw : exT K CL CW false
  lb : exT K CL CB false
  lu : exT K CL CU false
  ln : exT K CL CN false
  ll : exT K CL CL true
def FaultW (CW CB CU CN CL : Addr) (cls : Value) (d : Option Addr) (H : Hp) (Q : VK) : Prop := ∃ dd : Addr, d = some dd ∧
  ((∃ v, cls = .ref CW ∧ H dd = some (.xd [("part", v)]) ∧ ∀ t, H t = none → Q (.ref t) (upd H t (.tup [.str "swap", v]))) ∨ (∃ v, cls = .ref CB ∧ H dd = some (.xd [("part", v)]) ∧ ∀ t, H t = none → Q (.ref t) (upd H t (.tup [.str "row", v]))) ∨
   (∃ v, cls = .ref CU ∧ H dd = some (.xd [("part", v)]) ∧ ∀ t, H t = none → Q (.ref t) (upd H t (.tup [.str "number", v]))) ∨ (∃ v, cls = .ref CN ∧ H dd = some (.xd [("name", v)]) ∧ ∀ t, H t = none → Q (.ref t) (upd H t (.tup [.str "none", v]))) ∨
   (∃ v, cls = .ref CL ∧ H dd = some (.xd [("name", v)]) ∧ ∀ t, H t = none → Q (.ref t) (upd H t (.tup [.str "loser", v]))))
def TTf (CW CB CU CN CL : Addr) : (XK → Hp → VK → Prop) → Hp → VK → Prop := fun tl H Q => ∀ (E : XK) (Q0 : VK), (∀ cls d H', FaultW CW CB CU CN CL cls d H' Q → E cls d H') → tl E H Q0
abbrev nFault : List Str := ["_law_ask", "error"]
theorem scFault : FnScope nFault ["_law_ask"] (defScope sFault) := ⟨rfl, rfl, rfl, by decide +kernel, rfl, by decide +kernel, by decide +kernel⟩
theorem fault_gives {X : Cx} {g CW CB CU CN CL : Addr} {cdg : Value} {q : Str} (B : Flt X.K X.mg CW CB CU CN CL) :
    Gives1 X nFault "_law_fault" (defScope sFault) g cdg (defBody sFault) "_law_ask" q (TTf CW CB CU CN CL) := by
  intro f c' s H Q tl act hc h
  refine ⟨_, pss_cons (ps_try_manyAs (X := (cxOf C8.CX0 X.prog X.w X.K X.mg X.base nFault "_law_fault" (defScope sFault) g cdg X.A X.stack s H C8.E0).nox) (i := 1) (n := "error") (l := [(.ref CW, _), (.ref CB, _), (.ref CU, _), (.ref CN, _), (.ref CL, _)])
      rfl rfl scFault.nd rfl rfl LamX.takes0 (fun W pn xe tk _ => pss_one (ps_expr (act W pn xe _ _ tk)))
      (.cons ⟨rfl, by decide, .inl B.w.g⟩ (fun a oe cls d pn hz hf => pss_one (ps_ret (pe_tup (pa_cons pe_str (pa_cons (pe_xf B.w.xf B.fw hz hf (pv 1)) pa_nil)))))
      (.cons ⟨rfl, by decide, .inl B.b.g⟩ (fun a oe cls d pn hz hf => pss_one (ps_ret (pe_tup (pa_cons pe_str (pa_cons (pe_xf B.b.xf B.fb hz hf (pv 1)) pa_nil)))))
      (.cons ⟨rfl, by decide, .inl B.u.g⟩ (fun a oe cls d pn hz hf => pss_one (ps_ret (pe_tup (pa_cons pe_str (pa_cons (pe_xf B.u.xf B.fu hz hf (pv 1)) pa_nil)))))
      (.cons ⟨rfl, by decide, .inl B.n.g⟩ (fun a oe cls d pn hz hf => pss_one (ps_ret (pe_tup (pa_cons pe_str (pa_cons (pe_xf B.n.xf B.fn hz hf (pv 1)) pa_nil)))))
      (.cons ⟨rfl, by decide, .inl B.l.g⟩ (fun a oe cls d pn hz hf => pss_one (ps_ret (pe_tup (pa_cons pe_str (pa_cons (pe_xf B.l.xf B.fl hz hf (pv 1)) pa_nil)))))
      .nil)))))) (pss_one (ps_ret pe_non)), ?_⟩
  have two : 2 ≤ sizeLine := by rw [sizeLine_eq]; omega
  refine ⟨rfl, hc, h _ _ fun cls d H' fw => ?_⟩
  obtain ⟨dd, rfl, fw⟩ := fw
  rcases fw with ⟨v, rfl, hd, k⟩ | ⟨v, rfl, hd, k⟩ | ⟨v, rfl, hd, k⟩ | ⟨v, rfl, hd, k⟩ | ⟨v, rfl, hd, k⟩
  · refine ⟨true, B.ww, fun _ a na => ?_, fun z => Bool.noConfusion z⟩
    exact ⟨_, rfl, rfl, rfl, dd, _, v, rfl, hd, rfl, two, fun t nt => k t nt⟩
  · refine ⟨false, B.bw, fun z => Bool.noConfusion z, fun _ => ⟨true, B.bb, fun _ a na => ?_, fun z => Bool.noConfusion z⟩⟩
    exact ⟨_, rfl, rfl, rfl, dd, _, v, rfl, hd, rfl, two, fun t nt => k t nt⟩
  · refine ⟨false, B.uw, fun z => Bool.noConfusion z, fun _ => ⟨false, B.ub, fun z => Bool.noConfusion z, fun _ => ⟨true, B.uu, fun _ a na => ?_, fun z => Bool.noConfusion z⟩⟩⟩
    exact ⟨_, rfl, rfl, rfl, dd, _, v, rfl, hd, rfl, two, fun t nt => k t nt⟩
  · refine ⟨false, B.nw, fun z => Bool.noConfusion z, fun _ => ⟨false, B.nb, fun z => Bool.noConfusion z, fun _ => ⟨false, B.nu, fun z => Bool.noConfusion z, fun _ => ⟨true, B.nn, fun _ a na => ?_, fun z => Bool.noConfusion z⟩⟩⟩⟩
    exact ⟨_, rfl, rfl, rfl, dd, _, v, rfl, hd, rfl, two, fun t nt => k t nt⟩
  · refine ⟨false, B.lw, fun z => Bool.noConfusion z, fun _ => ⟨false, B.lb, fun z => Bool.noConfusion z, fun _ => ⟨false, B.lu, fun z => Bool.noConfusion z, fun _ => ⟨false, B.ln, fun z => Bool.noConfusion z, fun _ => ⟨true, B.ll, fun _ a na => ?_, fun z => Bool.noConfusion z⟩⟩⟩⟩⟩
    exact ⟨_, rfl, rfl, rfl, dd, _, v, rfl, hd, rfl, two, fun t nt => k t nt⟩
end K5

/-! k44: defs that are run where nothing below shows a value. -/
namespace K5
open PySem PySem.Spec PyProof.Rows L2 LamX K1 K18

/-- what a def keeps, where nothing below is being shown -/
structure FnG (P : Program) (w : World) (K : PySem.W.Frag) (mg : Str → Option Value) (base : Heap) (CX : CXT) (k : Nat) (f : Addr) (fd : FuncData) (ps : List Str) (sp : Sp) : Prop where
  ln : ∀ vs H Q E, sp vs H Q E → vs.length = ps.length
  go : ∀ (A : Around) (outer : List Env) (s : Shared) (H : Hp) (args : Args) (us : List Value) (vs : List V) (Q : VK) (E : XK),
    A.guards = some [] → Room k A → Env0 P w K mg base A outer s H → BindsTo s fd args (ps.zip us) → Vals vs us → sp vs H Q E → codeAny (model P w) A (.call (.ref f) args) (CR CX outer P w H s Q E) s
/-- a def of the program, its code at c -/
structure DefC (K : PySem.W.Frag) (x qual : Str) (st : Stmt) (f : Addr) (fd : FuncData) (c : Addr) : Prop where
  ex : ∃ (oc : Value) (od : Option Addr) (dV kV doc pm : Value) (an : Option Addr) (ct : Value) (osl : Array (Option Value)),
    fd = PySem.W.fnOf x qual (defArgs st) (defBody st) (defScope st) dV kV doc pm an (.ref c) ct ∧ K.lookup f = some ⟨oc, od, .func fd, osl⟩ ∧ PySem.W.codeIn K (.ref c) qual = true
section
variable {P : Program} {w : World} {K : PySem.W.Frag} {mg : Str → Option Value} {base : Heap} {x qual : Str} {st : Stmt} {f c : Addr} {fd : FuncData} {N ps : List Str} {k : Nat} {sp : Sp}
theorem okGC (D : DefC K x qual st f fd c) (S : FnScope N ps (defScope st)) (len : ∀ vs H Q E, sp vs H Q E → vs.length = ps.length)
    (hb : ∀ (A : Around) (outer : List Env) (s : Shared) (H : Hp) (vs : List V) (Q : VK) (E : XK), A.guards = some [] → Room k (A.deeper (envOfC qual (defScope st) s.heap.objs.size f (.ref c))) → sp vs H Q E →
      ∃ t, PSs (cxOf CX0 P w K mg base N qual (defScope st) f (.ref c) A outer s H E).nox (defBody st) t ∧ t { nx := fun _ H' => Q .non H', rt := Q } (start N vs) H) : FnG P w K mg base CX0 (k + 1) f fd ps sp := by
  obtain ⟨oc, od, dV, kV, doc, pm, an, ct, osl, rfl, lk, hcd⟩ := D.ex
  refine ⟨len, fun A outer s H args us vs Q E gd hr e0 hbd r hsp => run_ofS lk hcd S hr e0 hbd r (len _ _ _ _ hsp) fun hr2 => ?_⟩
  obtain ⟨t, h1, h2⟩ := hb A outer s H vs Q E gd hr2 hsp
  exact ⟨t, h1.nox, h2⟩
theorem okG (F : DefAt K x qual st f fd) (S : FnScope N ps (defScope st)) (len : ∀ vs H Q E, sp vs H Q E → vs.length = ps.length)
    (hb : ∀ (cdv : Value) (A : Around) (outer : List Env) (s : Shared) (H : Hp) (vs : List V) (Q : VK) (E : XK), A.guards = some [] → Room k (A.deeper (envOfC qual (defScope st) s.heap.objs.size f cdv)) → sp vs H Q E →
      ∃ t, PSs (cxOf CX0 P w K mg base N qual (defScope st) f cdv A outer s H E).nox (defBody st) t ∧ t { nx := fun _ H' => Q .non H', rt := Q } (start N vs) H) : FnG P w K mg base CX0 (k + 1) f fd ps sp := by
  obtain ⟨oc, od, dV, kV, doc, pm, an, cdv, ct, osl, rfl, lk, hcd, _, _⟩ := F.ex
  refine ⟨len, fun A outer s H args us vs Q E gd hr e0 hbd r hsp => run_ofS lk hcd S hr e0 hbd r (len _ _ _ _ hsp) fun hr2 => ?_⟩
  obtain ⟨t, h1, h2⟩ := hb cdv A outer s H vs Q E gd hr2 hsp
  exact ⟨t, h1.nox, h2⟩
end
/-- a call of such a def, where nothing below is being shown -/
theorem pe_callG {X : Cx} {k : Nat} {f : Addr} {fd : FuncData} {ps : List Str} {sp : Sp} {x : Str} {p pos : Pos} {e : Expr} {es : List Expr} {t : TA} (F : FnG X.prog X.w X.K X.mg X.base CX0 k f fd ps sp) (gd : X.A.guards = some []) (hr : Room k X.A) (hg : Gl X x) (hm : X.mg x = some (.ref f)) (hk : PySem.W.keepIn X.K (.ref f) = true) (hb : Binds X.K fd ps []) (ha : PA X (e :: es) t)
    (hdb : (x == ("__debug__" : Str)) = false := by decide) (he : starEach (e :: es) X.env = (false, eval e X.env) :: starEach es X.env := by rfl) (hpl : (backTo pos (starEach es X.env)).any (·.1) = false := by rfl) : PE X (.Call (.Name x p) (e :: es) [] pos) (tCall sp [] E0 t) := by
  have callee : ∀ {pn : List (Addr × Obj)} {τ : L2.St} {G : Hp} {s1 : Shared} {R : VK} {ws : List Value} {ys : List V}, Inv X pn τ G s1 → Vals ys ws → sp (ys ++ []) G R E0 → wpAny (model X.prog X.w) X.A (call (.ref f) ws) (EP X pn τ R) X.xe s1 := fun {pn τ G s1 R ws ys} J rel h => by
    have rel2 : Vals (ys ++ []) (ws ++ []) := rel.append .nil
    have cnt : (ws ++ []).length = ps.length := rel2.length.symm.trans (F.ln _ _ _ _ h)
    have run := F.go X.A X.stack s1 G ⟨ws, []⟩ (ws ++ []) (ys ++ []) R E0 gd hr J.env0 (hb s1 ws J.kIn cnt) rel2 h
    refine wpAny_call (codeAny_mono run fun fin s2 out => ?_)
    rcases fin with err | fl
    · exact (pass0 (X := X)) pn τ G s1 err s2 J out
    · cases fl <;> first | exact out.elim | exact J.after out
  exact ⟨fun pn s0 τ G R J h => wpAny_Call_Name_kw (ld_glob J hg hm (PySem.W.callWith_K (h₀ := X.base) J.ok.mod.kin hk (thn (ha.run pos pn s0 τ G _ J h) fun ws s1 ⟨ys, G1, J1, rel, q⟩ => ⟨J1.kIn, callee J1 rel q⟩) he hpl) hdb)⟩
/-- such a def, called by its name -/
structure HasQ (P : Program) (w : World) (K : PySem.W.Frag) (mg : Str → Option Value) (base : Heap) (k : Nat) (x : Str) (ps : List Str) (sp : Sp) : Prop where
  h : ∃ f fd, mg x = some (.ref f) ∧ PySem.W.keepIn K (.ref f) = true ∧ Binds K fd ps [] ∧ FnG P w K mg base CX0 k f fd ps sp
end K5

/-! k44: _law_loses. -/
namespace K5
open PySem PySem.Spec PyProof.Rows L2 LamX K1 K18 NdefX

structure HasFault (K : PySem.W.Frag) (mg : Str → Option Value) (CW CB CU CN CL : Addr) : Prop where
  h : ∃ (g : Addr) (fd : FuncData), mg "_law_fault" = some (.ref g) ∧ DefAt K "_law_fault" "_law_fault" sFault g fd
  f : Flt K mg CW CB CU CN CL
theorem pe_alt {X : Cx} {e : Expr} {t1 t2 : TE} (h1 : PE X e t1) (h2 : PE X e t2) : PE X e (fun σ H Q => t1 σ H Q ∨ t2 σ H Q) := ⟨fun pins s σ H Q I h => h.elim (h1.run pins s σ H Q I) (h2.run pins s σ H Q I)⟩
/-- _law_fault(lambda: ..) -/
theorem pe_ft {X : Cx} {T : List (Addr × Str)} {CW CB CU CN CL c P_ : Addr} {params : Arguments} {body : Expr} {scope : Scope} {t : XK → TE} {p lpos pos : Pos} (HF : HasFault X.K X.mg CW CB CU CN CL) (TB : TabB X.base X.mg c P_) (hr : Room 14 X.A) (hg : Gl X "_law_fault") (hcode : X.env.code = .ref c) (hmT : (P_, X.env.qual ++ "<lambda>") ∈ T) (hu : ∀ p ∈ T, p.1 = P_ → p.2 = X.env.qual ++ "<lambda>")
    (L : LamS X.env.scope scope) (hdef : defaultsOf params X.env = ([], [])) (hbind : ∀ (q : Str) (cl : List (Str × Addr)) (pm cv ctv : Value), bindArgs (PySem.W.kla_fn "<lambda>" q params body scope cl pm cv ctv) ⟨[], []⟩ = pure [])
    (hbody : ∀ (σ0 : L2.St) (A : Around) (outer : List Env) (s : Shared) (H : Hp) (E : XK) (f c' : Addr), Room 12 (A.deeper (lamEnv X scope s.heap.objs.size f c')) → CellF X σ0 s.heap H → PE (lamCx X A outer s H E scope f c') body (fun σ H' Q => σ = σ0 ∧ t E σ H' Q)) :
    PE X (.Call (.Name "_law_fault" p) [.Lambda params body scope lpos] [] pos) (tLam T (TTf CW CB CU CN CL) t) := by
  obtain ⟨g, fdg, mF, FF⟩ := HF.h
  have kF := FF.kp
  have bF : Binds X.K fdg ["_law_ask"] [] := FF.bindsN fun _ _ _ _ _ _ us hl => match us, hl with | [_], _ => rfl
  obtain ⟨ocR, odR, dVR, kVR, docR, pmR, anR, cdvR, ctR, oslR, rfl, lkF, hcF, _, _⟩ := FF.ex
  exact pe_lam1 (k := 12) (Ng := nFault) hg mF kF lkF hcF bF scFault rfl (.inl rfl) (fault_gives HF.f) TB hcode hmT hu hr L hdef hbind hbody
/-- what is told, as data -/
def pairD (k : Str) (d : PyData) : PyData := .tuple [.str k, d]
theorem pairD_lay {k : Str} {d : PyData} (hk : PyData.canLay0 (.str k) = true) (hd : PyData.canLay0 d = true) : (pairD k d).canLay0 = true := by
  unfold pairD
  rw [PyData.canLay0, PyData.canLayAll0, hk, PyData.canLayAll0, hd]
  rfl
theorem pairD_sh {k : Str} {d : PyData} (hk : PyData.canLay0 (.str k) = true) (hd : PyData.canLay0 d = true) (dp : PyData.depth d ≤ 10) : SeqAt.shaped (pairD k d) = true := by
  show (PyData.canLay0 (pairD k d) && decide (PyData.depth (pairD k d) ≤ 64)) = true
  rw [pairD_lay hk hd]
  unfold pairD
  simp only [PyData.depth, PyData.depthAll, Bool.true_and]
  exact decide_eq_true (by omega)
theorem pairD_eq {k : Str} {d : PyData} (hk : PyData.canLay0 (.str k) = true) (hd : PyData.canLay0 d = true) : PyData.eqv (pairD k d) (pairD k d) = true := PySem.SeqAt.eqv_refl _ (pairD_lay hk hd)
/-- a value that is told -/
structure Tld (K : PySem.W.Frag) (H : Hp) (x : V) (d : PyData) : Prop where
  lay : PyData.canLay0 d = true
  deep : PyData.depth d ≤ 10
  dp : ∀ H', ExtN H H' → Dp K H' x d
section
variable {K : PySem.W.Frag} {T : List (Addr × Str)} {CW CB CU CN CL Xc : Addr} {H : Hp} {σ : L2.St} {t : XK → TE} {A Cc : TS} {D : Ends}
/-- an error's field is told -/
theorem pair_step {k1 f1 : Str} {te : TE} {x : V} {d : PyData} (hk : PyData.canLay0 (.str k1) = true) (tl : Tld K H x d) (hte : ∀ (H' : Hp) (Q : VK), Q x H' → te σ H' Q)
    (hw : ∀ (d : Addr) (H' : Hp) (Q : VK), H' d = some (.xd [(f1, x)]) → (∀ t, H' t = none → Q (.ref t) (upd H' t (.tup [.str k1, x]))) → FaultW CW CB CU CN CL (.ref Xc) (some d) H' Q)
    (tb : Tabs T H) (body : ∀ H1, ExtN H H1 → Tabs T H1 → ∀ (E : XK) (Q0 : VK), (∀ d H', ToldF H1 H' d [(f1, x)] → E (.ref Xc) (some d) H') → t E σ H1 Q0) (next : ∀ H', ExtN H H' → Tabs T H' → Cc D σ H') :
    tSeq (tIfS (tTest (tOp (rNeD K) (tLam T (TTf CW CB CU CN CL) t) (tTup (tCons (tC (.str k1)) (tCons te tNil))))) A tNext) Cc D σ H := by
  refine ⟨tb, fun H1 ex tb1 E Q0 hE => body H1 ex tb1 E Q0 fun dd H' told => hE _ _ _ (hw dd H' _ told.at_ fun t2 n2 => ?_)⟩
  have s2 := upd_new (o := .tup [V.str k1, x]) n2
  have h2 : upd H' t2 (.tup [V.str k1, x]) t2 = some (.tup [V.str k1, x]) := upd_same
  generalize upd H' t2 (.tup [V.str k1, x]) = H2 at s2 h2 ⊢
  refine hte _ _ ⟨(by show 2 ≤ sizeLine; rw [sizeLine_eq]; omega), fun t3 n3 => ?_⟩
  have s3 := upd_new (o := .tup [V.str k1, x]) n3
  have h3 : upd H2 t3 (.tup [V.str k1, x]) t3 = some (.tup [V.str k1, x]) := upd_same
  generalize upd H2 t3 (.tup [V.str k1, x]) = H3 at s3 h3 ⊢
  have sx := ex.trans (Same.extN ((told.same.trans s2).trans s3))
  have dpx := tl.dp _ sx
  refine ⟨pairD k1 d, pairD k1 d, .tup (SqT.of (s3 _ _ h2)) (.cons (.str _) (.cons dpx .nil)), .tup (SqT.of h3) (.cons (.str _) (.cons dpx .nil)), pairD_sh hk tl.lay tl.deep, pairD_sh hk tl.lay tl.deep, _, rfl, ?_⟩
  rw [pairD_eq hk tl.lay]
  exact iteF (next _ sx (tabs_same ((told.same.trans s2).trans s3) tb1))
end
section
variable {CW CB CU CN CL : Addr}
theorem fw_w {v : V} : ∀ d H' Q, H' d = some (.xd [("part", v)]) → (∀ t, H' t = none → Q (.ref t) (upd H' t (.tup [.str "swap", v]))) → FaultW CW CB CU CN CL (.ref CW) (some d) H' Q := fun d H' Q e k => ⟨d, rfl, .inl ⟨v, rfl, e, k⟩⟩
theorem fw_b {v : V} : ∀ d H' Q, H' d = some (.xd [("part", v)]) → (∀ t, H' t = none → Q (.ref t) (upd H' t (.tup [.str "row", v]))) → FaultW CW CB CU CN CL (.ref CB) (some d) H' Q := fun d H' Q e k => ⟨d, rfl, .inr (.inl ⟨v, rfl, e, k⟩)⟩
theorem fw_u {v : V} : ∀ d H' Q, H' d = some (.xd [("part", v)]) → (∀ t, H' t = none → Q (.ref t) (upd H' t (.tup [.str "number", v]))) → FaultW CW CB CU CN CL (.ref CU) (some d) H' Q := fun d H' Q e k => ⟨d, rfl, .inr (.inr (.inl ⟨v, rfl, e, k⟩))⟩
theorem fw_n {v : V} : ∀ d H' Q, H' d = some (.xd [("name", v)]) → (∀ t, H' t = none → Q (.ref t) (upd H' t (.tup [.str "none", v]))) → FaultW CW CB CU CN CL (.ref CN) (some d) H' Q := fun d H' Q e k => ⟨d, rfl, .inr (.inr (.inr (.inl ⟨v, rfl, e, k⟩)))⟩
theorem fw_l {v : V} : ∀ d H' Q, H' d = some (.xd [("name", v)]) → (∀ t, H' t = none → Q (.ref t) (upd H' t (.tup [.str "loser", v]))) → FaultW CW CB CU CN CL (.ref CL) (some d) H' Q := fun d H' Q e k => ⟨d, rfl, .inr (.inr (.inr (.inr ⟨v, rfl, e, k⟩)))⟩
end
/-! ### the askers -/
section
variable {K : PySem.W.Frag} {C CH CS CW CB CN CL : Addr} {i : Nat} {f f1 f2 : Addr} {t : TA} {σ : L2.St} {H : Hp} {Q : VK} {E : XK}
theorem ask2 (hσ : σ[i]? = some (some (.ref f))) (hf : f = f1 ∨ f = f2)
    (h : ∀ P : List V → Hp → Prop, (∀ u v x H1, (∀ good, AskW K C CH CS CW CB CN CL u v x H1 E good) → P [u, v, x] H1) → t σ H P) :
    tCallL i f1 (spAsk K C CH CS CW CB CN CL id) [] E t σ H Q ∨ tCallL i f2 (spAsk K C CH CS CW CB CN CL negs) [] E t σ H Q := by
  rcases hf with rfl | rfl
  · exact .inl ⟨hσ, h _ fun u v x H1 z => ⟨u, v, x, rfl, z _⟩⟩
  · exact .inr ⟨hσ, h _ fun u v x H1 z => ⟨u, v, x, rfl, z _⟩⟩
end
abbrev qLoses : Str := (("_law_loses" : Str) ++ (".<locals>." : Str)) ++ ("<lambda>" : Str)
abbrev nLoses : List Str := ["_law_swap", "_law_row", "_law_name", "_law_ask"]
theorem scLoses : FnScope nLoses ["_law_swap", "_law_row", "_law_name"] (defScope sLoses) := ⟨rfl, rfl, rfl, by decide +kernel, rfl, by decide +kernel, by decide +kernel⟩
/-- spared, bound_to -/
structure HasAsk (P : Program) (w : World) (K : PySem.W.Frag) (mg : Str → Option Value) (base : Heap) (C CH CS CW CB CN CL : Addr) : Prop where
  s : Has P w K mg base (L2.CX P w) 11 "spared" ["swap", "row", "name"] (spAsk K C CH CS CW CB CN CL id)
  b : Has P w K mg base (L2.CX P w) 11 "bound_to" ["swap", "row", "name"] (spAsk K C CH CS CW CB CN CL negs)
def spLoses (T : List (Addr × Str)) (C CH CS : Addr) : Sp := fun vs H Q _ => ∃ (a b : Addr) (ns : List Str) (hs : List Hnd) (ks : List Nat) (n : Str), vs = [.ref a, .ref b, .str n] ∧ Tabs T H ∧ SwAt C CH CS H a ns hs ∧ SwOk ns hs ∧ HnSm hs ∧ hs.length ≤ 50 ∧ SqA H b (kV ks) ∧ ks.Perm (List.range hs.length) ∧ n ∈ ns ∧ net hs n < 0 ∧
  PyData.canLay0 (.str n) = true ∧ ∀ H', ExtN H H' → Tabs T H' → Q (.bl true) H'
section
variable {P : Program} {w : World} {K : PySem.W.Frag} {mg : Str → Option Value} {base : Heap} {f C CH CS CW CB CU CN CL cc PT_ : Addr} {fd : FuncData}
theorem ok_loses {T : List (Addr × Str)} (HA : HasAsk P w K mg base C CH CS CW CB CN CL) (HF : HasFault K mg CW CB CU CN CL) (TB : TabB base mg cc PT_) (memT : (PT_, qLoses) ∈ T) (uniT : ∀ p ∈ T, p.1 = PT_ → p.2 = qLoses)
    (F : DefC K "_law_loses" "_law_loses" sLoses f fd cc) : FnG P w K mg base CX0 15 f fd ["_law_swap", "_law_row", "_law_name"] (spLoses T C CH CS) := by
  obtain ⟨f1, fd1, m1, k1, b1, G1⟩ := HA.s.h
  obtain ⟨f2, fd2, m2, k2, b2, G2⟩ := HA.b.h
  refine okGC F scLoses (fun vs H Q E ⟨a, b, ns, hs, ks, n, e, _⟩ => by rw [e]; rfl) (fun A outer s H vs Q E gd hr ⟨a, b, ns, hs, ks, n, e, tb, ha, ok, sm, l50, sq, pm, mem, neg, lay, q⟩ => ?_)
  subst e
  have hu64 : (A.deeper (envOfC "_law_loses" (defScope sLoses) s.heap.objs.size f (.ref cc))).units + 64 < cLine := by have := hr.un; omega
  refine ⟨_, pss_cons (ps_for PassesOwn.never rfl (pi_tup (pe_tup (pa_cons (pe_glob (v := .ref f1) rfl m1 rfl) (pa_cons (pe_glob (v := .ref f2) rfl m2 rfl) pa_nil)))) (pg_name (i := 3) scLoses.nd rfl (Or.inr rfl))
      (pss_cons (ps_if (pt_cmpR (op_neD hu64) (pe_ft (X := (cxOf CX0 P w K mg base nLoses "_law_loses" (defScope sLoses) f (.ref cc) A outer s H E).nox) (T := T) HF TB hr rfl rfl memT uniT (lamS_by (sc := defScope sLoses) (by decide +kernel)) rfl (fun _ _ _ _ _ => rfl)
        (fun σ0 A2 o2 s2 H2 E2 f2' c2 hr2 cf => pe_at (pe_alt (pe_callL (i := 3) (E := E2) G1 (hr2.mono (by decide)) rfl (by first | exact Or.inl rfl | exact Or.inr (Or.inl rfl) | exact Or.inr (Or.inr rfl)) k1 b1 .nil (passes_call (takes_of rfl rfl rfl rfl) fun _ _ _ _ z => z) (pa_cons (pv 0) (pa_cons (pv 1) (pa_cons (pv 2) pa_nil))))
          (pe_callL (i := 3) (E := E2) G2 (hr2.mono (by decide)) rfl (by first | exact Or.inl rfl | exact Or.inr (Or.inl rfl) | exact Or.inr (Or.inr rfl)) k2 b2 .nil (passes_call (takes_of rfl rfl rfl rfl) fun _ _ _ _ z => z) (pa_cons (pv 0) (pa_cons (pv 1) (pa_cons (pv 2) pa_nil))))) fun _ _ h => h)) (pe_tup (pa_cons pe_str (pa_cons (pv 2) pa_nil))) (nomark _)) (pss_one (ps_ret pe_bl)) pss_nil) pss_nil))
    (pss_one (ps_ret pe_bl)), ?_⟩
  have sz : sizeLine = 16777216 := sizeLine_eq
  refine ⟨(by show 2 ≤ sizeLine; omega), fun t nt => ?_⟩
  have s1 := upd_new (o := .tup [V.ref f1, .ref f2]) nt
  have ht : upd H t (.tup [V.ref f1, .ref f2]) t = some (.tup [V.ref f1, .ref f2]) := upd_same
  generalize upd H t (.tup [V.ref f1, .ref f2]) = H1 at s1 ht ⊢
  refine ⟨t, rfl, ⟨_, SqT.of ht⟩, ?_⟩
  refine for_it (walk_tup (xs := [V.ref f1, .ref f2])) (fun i σ H2 => ExtN H1 H2 ∧ Tabs T H2 ∧ ∃ z, σ = [some (.ref a), some (.ref b), some (.str n), z]) ⟨ExtN.refl _, tabs_same s1 tb, none, rfl⟩ (fun i σ H2 _ z => SqT.of (z.1 _ _ ht (fun _ z => nomatch z))) ?_ ?_
  · rintro i v σ H2 H3 hi ⟨x2, tb2, z, rfl⟩ ⟨rfl, ev⟩
    obtain ⟨fx, rfl, hf⟩ : ∃ fx, v = .ref fx ∧ (fx = f1 ∨ fx = f2) := by
      match i, ev with
      | 0, ev => cases ev; exact ⟨_, rfl, .inl rfl⟩
      | 1, ev => cases ev; exact ⟨_, rfl, .inr rfl⟩
      | i + 2, ev => exact nomatch ev
    have x02 := (Same.extN s1).trans x2
    dsimp only [gName]
    refine pair_step (K := K) (x := .str n) (d := .str n) (by decide +kernel) ⟨lay, by simp [PyData.depth], fun H' _ => .str n⟩ (fun H' Q' hq => ⟨_, rfl, hq⟩) fw_l tb2 (fun H4 x4 tb4 E4 Q4 hE => ?_) fun H4 x4 tb4 => ⟨x2.trans x4, tb4, _, rfl⟩
    have x04 := x02.trans x4
    exact ask2 rfl hf fun P' kk => ⟨_, rfl, _, rfl, _, rfl, kk _ _ _ _ fun good => .inr ⟨a, ns, hs, rfl, ha.extN x04, ok, sm, l50, .inr ⟨b, ks, rfl, SqA.extN x04 sq, pm, .inl ⟨n, rfl, ok.nm n mem, mem, .inl ⟨neg, hE⟩⟩⟩⟩⟩
  · rintro σ H2 ⟨x2, tb2, z, rfl⟩
    exact q H2 ((Same.extN s1).trans x2) tb2
end
end K5

/-! k44: distances in rows and in hand-overs; rows begun elsewhere. -/
namespace K5
open PySem PySem.Spec PyProof.Rows L2 LamX K1 K18

theorem least_uniq {zs : List Int} {i j : Nat} (h : LeastAt zs i) (h' : LeastAt zs j) : i = j := by
  obtain ⟨z, e, le, fi⟩ := h
  obtain ⟨z', e', le', fi'⟩ := h'
  have a := le z' (List.mem_of_getElem? e')
  have b := le' z (List.mem_of_getElem? e)
  rcases Nat.lt_trichotomy i j with l | l | l
  · have := fi' i z l e; omega
  · exact l
  · have := fi j z' l e'; omega
theorem most_uniq {zs : List Int} {i j : Nat} (h : MostAt zs i) (h' : MostAt zs j) : i = j := by
  obtain ⟨z, e, le, fi⟩ := h
  obtain ⟨z', e', le', fi'⟩ := h'
  have a := le z' (List.mem_of_getElem? e')
  have b := le' z (List.mem_of_getElem? e)
  rcases Nat.lt_trichotomy i j with l | l | l
  · have := fi' i z l e; omega
  · exact l
  · have := fi j z' l e'; omega
theorem at_of {f : Int → Int} {zs : List Int} {i : Nat} {z : Int} (e : (zs.map f)[i]? = some z) : ∃ y, zs[i]? = some y ∧ z = f y := by
  rw [List.getElem?_map] at e
  cases e' : zs[i]? with
  | none => rw [e'] at e; cases e
  | some y => rw [e'] at e; cases e; exact ⟨y, rfl, rfl⟩
theorem least_up {zs : List Int} {c : Int} (c0 : 0 < c) {i : Nat} (h : LeastAt (zs.map (c * ·)) i) : LeastAt zs i := by
  obtain ⟨z, e, le, fi⟩ := h
  obtain ⟨y, ey, rfl⟩ := at_of e
  refine ⟨y, ey, fun x hx => ?_, fun m x hm ex => ?_⟩
  · exact Int.le_of_mul_le_mul_left (le (c * x) (List.mem_map.mpr ⟨x, hx, rfl⟩)) c0
  · exact Int.lt_of_mul_lt_mul_left (fi m (c * x) hm (by rw [List.getElem?_map, ex]; rfl)) (Int.le_of_lt c0)
theorem most_up {zs : List Int} {c : Int} (c0 : 0 < c) {i : Nat} (h : LeastAt (negs (zs.map (c * ·))) i) : MostAt zs i := by
  obtain ⟨z, e, le, fi⟩ := h
  rw [negs, List.map_map] at e
  obtain ⟨y, ey, rfl⟩ := at_of e
  refine ⟨y, ey, fun x hx => ?_, fun m x hm ex => ?_⟩
  · have := le (-(c * x)) (List.mem_map.mpr ⟨c * x, List.mem_map.mpr ⟨x, hx, rfl⟩, rfl⟩)
    simp only [Function.comp] at this
    exact Int.le_of_mul_le_mul_left (show c * x ≤ c * y by omega) c0
  · have := fi m (-(c * x)) hm (by rw [negs, List.map_map, List.getElem?_map, ex]; rfl)
    simp only [Function.comp] at this
    exact Int.lt_of_mul_lt_mul_left (show c * x < c * y by omega) (Int.le_of_lt c0)
/-! ### a row's sums, in hand-overs -/
theorem effR_up (k : Nat) (j : Nat) (r : Row) : effR j (Row.up k r) = (k : Int) * effR j r := by
  unfold effR Row.up
  simp only
  split
  · rw [Int.mul_neg]
  · split
    · rfl
    · rw [Int.mul_zero]
theorem effs_tot {ns : List Str} {rs : List Row} {k pl : Nat} (nd : ns.Nodup) (ok : ∀ r ∈ rs.map (Row.up k), RwOk ns.length r) (hpl : pl < ns.length) : ∀ {l : List Nat}, (∀ x ∈ l, x < rs.length) →
    effs ((rs.map (Row.up k)).map (mkH ns)) l (ns.getD pl "") = (k : Int) * ((l.filterMap fun x => rs[x]?).map (effR pl)).sum
  | [], _ => by simp [effs]
  | x :: l, h => by
    have ih := effs_tot (k := k) nd ok hpl (l := l) fun y hy => h y (List.mem_cons_of_mem _ hy)
    have hx := h x List.mem_cons_self
    have er : rs[x]? = some rs[x] := List.getElem?_eq_getElem hx
    have e2 : ((rs.map (Row.up k)).map (mkH ns))[x]? = some (mkH ns (Row.up k rs[x])) := by rw [List.getElem?_map, List.getElem?_map, er]; rfl
    unfold effs at ih ⊢
    rw [List.map_cons, List.sum_cons, ih, e2, List.filterMap_cons, er]
    simp only [List.map_cons, List.sum_cons]
    rw [eff_row nd (ok _ (List.mem_map.mpr ⟨_, List.getElem_mem hx, rfl⟩)) hpl, effR_up, Int.mul_add]
theorem some_take (rs : List Row) : ∀ n, (List.range n).filterMap (fun x => rs[x]?) = rs.take n
  | 0 => rfl
  | n + 1 => by
    rw [List.range_succ, List.filterMap_append, some_take rs n, List.take_succ]
    congr 1
theorem perm_sum {l l' : List Int} (p : l.Perm l') : l.sum = l'.sum := by
  induction p with
  | nil => rfl
  | cons x _ ih => rw [List.sum_cons, List.sum_cons, ih]
  | swap x y l => simp only [List.sum_cons]; omega
  | trans _ _ a b => exact a.trans b
theorem tot_all {rs : List Row} {ks : List Nat} (pm : ks.Perm (List.range rs.length)) (pl : Nat) : totR rs ks pl ks.length = (rs.map (effR pl)).sum := by
  unfold totR
  rw [List.take_length]
  have p := (pm.filterMap fun x => rs[x]?).map (effR pl)
  rw [some_take, List.take_length] at p
  exact perm_sum p
theorem net_tot {ns : List Str} {rs : List Row} {ks : List Nat} {k pl : Nat} (nd : ns.Nodup) (ok : ∀ r ∈ rs.map (Row.up k), RwOk ns.length r) (hpl : pl < ns.length) (pm : ks.Perm (List.range rs.length)) :
    net ((rs.map (Row.up k)).map (mkH ns)) (ns.getD pl "") = (k : Int) * totR rs ks pl ks.length := by
  rw [net_row nd hpl ok, tot_all pm, List.map_map]
  have : ∀ l : List Row, (l.map (effR pl ∘ Row.up k)).sum = (k : Int) * (l.map (effR pl)).sum := fun l => by
    induction l with
    | nil => simp
    | cons a l ih => rw [List.map_cons, List.map_cons, List.sum_cons, List.sum_cons, ih, Function.comp, effR_up, Int.mul_add]
  exact this rs
theorem abs_ap {ns : List Str} {rs : List Row} {ks : List Nat} {k pl : Nat} (nd : ns.Nodup) (ok : ∀ r ∈ rs.map (Row.up k), RwOk ns.length r) (hpl : pl < ns.length) (pm : ks.Perm (List.range rs.length)) :
    absZ ((rs.map (Row.up k)).map (mkH ns)) ks (ns.getD pl "") = (apR rs ks pl).map (((6 * k : Nat) : Int) * ·) := by
  unfold absZ apR
  refine Eq.trans (List.map_congr_left (g := fun t : Nat => ((6 * k : Nat) : Int) * ((ks.length : Int) * totR rs ks pl t - (t : Int) * totR rs ks pl ks.length)) fun t ht => ?_) (List.map_map ..).symm
  unfold abZ
  have lt : ∀ x ∈ ks.take t, x < rs.length := fun x hx => List.mem_range.mp (pm.mem_iff.mp (List.mem_of_mem_take hx))
  rw [effs_tot nd ok hpl lt, net_tot nd ok hpl pm]
  show (k : Int) * totR rs ks pl t * (6 * 1 * (ks.length : Int)) - ((k : Int) * totR rs ks pl ks.length * (t : Int) * 1) * 6 = ((6 * k : Nat) : Int) * ((ks.length : Int) * totR rs ks pl t - (t : Int) * totR rs ks pl ks.length)
  generalize totR rs ks pl t = a
  generalize totR rs ks pl ks.length = b
  push_cast
  rw [Int.mul_sub]
  congr 1
  · simp only [Int.mul_one, Int.mul_comm, Int.mul_left_comm, Int.mul_assoc]
  · simp only [Int.mul_one, Int.mul_comm, Int.mul_left_comm, Int.mul_assoc]
/-! ### a row begun elsewhere -/
def sumR (rs : List Row) (pl : Nat) (l : List Nat) : Int := ((l.filterMap fun k => rs[k]?).map (effR pl)).sum
theorem sumR_app (rs : List Row) (pl : Nat) (a b : List Nat) : sumR rs pl (a ++ b) = sumR rs pl a + sumR rs pl b := by
  unfold sumR
  rw [List.filterMap_append, List.map_append, List.sum_append]
theorem tot_sum (rs : List Row) (ks : List Nat) (pl t : Nat) : totR rs ks pl t = sumR rs pl (ks.take t) := rfl
theorem drop_sum (rs : List Row) (ks : List Nat) (pl i t : Nat) : sumR rs pl ((ks.drop i).take t) = totR rs ks pl (i + t) - totR rs ks pl i := by
  have z := sumR_app rs pl (ks.take i) ((ks.drop i).take t)
  rw [← List.take_add] at z
  rw [tot_sum, tot_sum]
  omega
theorem begun_tot {rs : List Row} {ks : List Nat} {pl i t : Nat} (hi : i ≤ ks.length) (ht : t ≤ ks.length) : (i + t ≤ ks.length ∧ totR rs (begun ks i) pl t = totR rs ks pl (i + t) - totR rs ks pl i) ∨
    ∃ s, s + ks.length = i + t ∧ s ≤ i ∧ totR rs (begun ks i) pl t = totR rs ks pl ks.length - totR rs ks pl i + totR rs ks pl s := by
  have ld : (ks.drop i).length = ks.length - i := List.length_drop
  by_cases h : i + t ≤ ks.length
  · refine .inl ⟨h, ?_⟩
    rw [tot_sum rs (begun ks i), begun, List.take_append_of_le_length (by omega), drop_sum]
  · refine .inr ⟨i + t - ks.length, by omega, by omega, ?_⟩
    rw [tot_sum rs (begun ks i), begun, List.take_append, ld, sumR_app, List.take_take, Nat.min_eq_left (by omega), List.take_of_length_le (by omega)]
    have z := drop_sum rs ks pl i (ks.length - i)
    rw [List.take_of_length_le (by omega), show i + (ks.length - i) = ks.length by omega] at z
    rw [z, show t - (ks.length - i) = i + t - ks.length by omega]
    rfl
theorem ap_at {rs : List Row} {ks : List Nat} {pl t : Nat} (h : t < ks.length) : (ks.length : Int) * totR rs ks pl t - (t : Int) * totR rs ks pl ks.length ∈ apR rs ks pl := List.mem_map.mpr ⟨t, List.mem_range.mpr h, rfl⟩
theorem ap_any {rs : List Row} {ks : List Nat} {pl t : Nat} (h : t ≤ ks.length) (p : 0 < ks.length) : (ks.length : Int) * totR rs ks pl t - (t : Int) * totR rs ks pl ks.length ∈ apR rs ks pl := by
  rcases Nat.lt_or_ge t ks.length with l | l
  · exact ap_at l
  · obtain rfl : t = ks.length := by omega
    have z := ap_at (rs := rs) (pl := pl) p
    rw [show totR rs ks pl 0 = 0 by unfold totR; simp] at z
    rw [Int.sub_self]
    simpa using z
theorem ap_of {rs : List Row} {ks : List Nat} {pl i : Nat} {z : Int} (e : (apR rs ks pl)[i]? = some z) : i < ks.length ∧ z = (ks.length : Int) * totR rs ks pl i - (i : Int) * totR rs ks pl ks.length := by
  unfold apR at e
  rw [List.getElem?_map] at e
  by_cases h : i < ks.length
  · rw [List.getElem?_range h] at e
    exact ⟨h, (Option.some.inj e).symm⟩
  · rw [List.getElem?_eq_none (by rw [List.length_range]; omega)] at e
    cases e
/-- begun where it is least, nothing is below 0 -/
theorem least_ok {rs : List Row} {ks : List Nat} {pl i : Nat} (h : LeastAt (apR rs ks pl) i) (n0 : 0 ≤ totR rs ks pl ks.length) : ∀ t, t ≤ ks.length → 0 ≤ totR rs (begun ks i) pl t := fun t ht => by
  obtain ⟨z, e, le, _⟩ := h
  obtain ⟨hi, rfl⟩ := ap_of e
  have p : 0 < ks.length := by omega
  have pL : (0 : Int) < ks.length := by omega
  rcases begun_tot (rs := rs) (pl := pl) (Nat.le_of_lt hi) ht with ⟨hit, eq⟩ | ⟨s, es, si, eq⟩
  · have z := le _ (ap_any (rs := rs) (pl := pl) hit p)
    rw [eq]
    have y : 0 ≤ (t : Int) * totR rs ks pl ks.length := Int.mul_nonneg (by omega) n0
    have : ((i + t : Nat) : Int) * totR rs ks pl ks.length = (i : Int) * totR rs ks pl ks.length + (t : Int) * totR rs ks pl ks.length := by push_cast; rw [Int.add_mul]
    have : (ks.length : Int) * totR rs ks pl i ≤ (ks.length : Int) * totR rs ks pl (i + t) := by omega
    have := Int.le_of_mul_le_mul_left this pL
    omega
  · have z := le _ (ap_any (rs := rs) (pl := pl) (t := s) (by omega) p)
    rw [eq]
    generalize totR rs ks pl ks.length = N at n0 z ⊢
    generalize totR rs ks pl i = a at z ⊢
    generalize totR rs ks pl s = b at z ⊢
    have y : 0 ≤ (t : Int) * N := Int.mul_nonneg (by omega) n0
    have e2 : (s : Int) * N + (ks.length : Int) * N = (i : Int) * N + (t : Int) * N := by rw [← Int.add_mul, ← Int.add_mul]; congr 1; omega
    have : (ks.length : Int) * 0 ≤ (ks.length : Int) * (N - a + b) := by
      rw [Int.mul_add, Int.mul_sub, Int.mul_zero]
      omega
    exact Int.le_of_mul_le_mul_left this pL
/-- begun where it is greatest, nothing is above the net -/
theorem most_ok {rs : List Row} {ks : List Nat} {pl i : Nat} (h : MostAt (apR rs ks pl) i) (n0 : 0 ≤ totR rs ks pl ks.length) : ∀ t, t ≤ ks.length → totR rs (begun ks i) pl t ≤ totR rs ks pl ks.length := fun t ht => by
  obtain ⟨z, e, le, _⟩ := h
  obtain ⟨hi, rfl⟩ := ap_of e
  have p : 0 < ks.length := by omega
  have pL : (0 : Int) < ks.length := by omega
  have tN : (t : Int) * totR rs ks pl ks.length ≤ (ks.length : Int) * totR rs ks pl ks.length := Int.mul_le_mul_of_nonneg_right (by omega) n0
  rcases begun_tot (rs := rs) (pl := pl) (Nat.le_of_lt hi) ht with ⟨hit, eq⟩ | ⟨s, es, si, eq⟩
  · have z := le _ (ap_any (rs := rs) (pl := pl) hit p)
    rw [eq]
    generalize totR rs ks pl ks.length = N at n0 z tN ⊢
    generalize totR rs ks pl i = a at z ⊢
    generalize totR rs ks pl (i + t) = b at z ⊢
    have e2 : ((i + t : Nat) : Int) * N = (i : Int) * N + (t : Int) * N := by push_cast; rw [Int.add_mul]
    have : (ks.length : Int) * (b - a) ≤ (ks.length : Int) * N := by
      rw [Int.mul_sub]
      omega
    exact Int.le_of_mul_le_mul_left this pL
  · have z := le _ (ap_any (rs := rs) (pl := pl) (t := s) (by omega) p)
    rw [eq]
    generalize totR rs ks pl ks.length = N at n0 z tN ⊢
    generalize totR rs ks pl i = a at z ⊢
    generalize totR rs ks pl s = b at z ⊢
    have e2 : (s : Int) * N + (ks.length : Int) * N = (i : Int) * N + (t : Int) * N := by rw [← Int.add_mul, ← Int.add_mul]; congr 1; omega
    have : (ks.length : Int) * (N - a + b) ≤ (ks.length : Int) * N := by
      rw [Int.mul_add, Int.mul_sub]
      omega
    exact Int.le_of_mul_le_mul_left this pL
theorem begun_len (ks : List Nat) (i : Nat) : (begun ks i).length = ks.length := by
  unfold begun
  rw [List.length_append, List.length_drop, List.length_take]
  omega
theorem begun_perm (ks : List Nat) (i : Nat) : (begun ks i).Perm ks := by
  unfold begun
  refine List.perm_append_comm.trans ?_
  rw [List.take_append_drop]
end K5

/-! repr of nested values that may hold instances of an own class. -/
namespace K18R
open PySem PySem.Spec PyProof.Rows L2 L2H K1

theorem rh_in1 {k : Nat} {A : Around} (r : RoomH (k + 1) A) : RoomH k A.in1 := ⟨by have := r.dp; show A.depth + 3 * k + 5 < _; omega, by have := r.un; show A.units + 1 + 16 * k + 200 < _; omega⟩
/-- code that runs at A for the body X: the same frames, room, the guards that run spare the addresses in S -/
structure At (X : Cx) (G0 : List Code) (k : Nat) (A : Around) (S : Addr → Prop) : Prop where
  fr : A.frames = some X.stack
  room : RoomH k A
  gd : ∃ g, A.guards = some (g ++ G0) ∧ ∀ b, S b → Clear g b
theorem At.env0 {X : Cx} {G0 : List Code} {k : Nat} {A : Around} {S : Addr → Prop} {pins : List (Addr × Obj)} {σ : L2.St} {H : Hp} {s : Shared} (t : At X G0 k A S) (I : Inv X pins σ H s) : Env0 X.prog X.w X.K X.mg X.base A X.stack s H := by
  have e := I.env0
  exact ⟨t.fr, e.mod, e.bs, e.bsz, e.funs, e.frf, e.hok, e.bare⟩
theorem At.in1 {X : Cx} {G0 : List Code} {k : Nat} {A : Around} {S : Addr → Prop} (t : At X G0 (k + 1) A S) : At X G0 k A.in1 S := by
  obtain ⟨g, h1, h2⟩ := t.gd
  exact ⟨t.fr, (rh_in1 t.room), g, h1, h2⟩
theorem At.less {X : Cx} {G0 : List Code} {j k : Nat} {A : Around} {S U : Addr → Prop} (t : At X G0 k A S) (h : j ≤ k) (hs : ∀ b, U b → S b) : At X G0 j A U := by
  obtain ⟨g, h1, h2⟩ := t.gd
  exact ⟨t.fr, t.room.mono h, g, h1, fun b hb => h2 b (hs b hb)⟩
/-- v is shown by the text t, wherever it is reached (X's heap H, at its time or later) -/
def RpU (X : Cx) (G0 : List Code) (k : Nat) (S : Addr → Prop) (H : Hp) (v : V) (t : Str) : Prop :=
  ∀ (base : Nat) (A : Around) (E : Value → Shared → Prop) (pins : List (Addr × Obj)) (σ : L2.St) (s : Shared) (H1 : Hp) (u : Value) (Q : Str → Shared → Prop),
    base + t.length ≤ sizeLine → At X G0 k A S → Inv X pins σ H1 s → Same H H1 → RelV v u →
    (∀ s' H2, Inv X pins σ H2 s' → Same H1 H2 → Q t s') → wpAny (model X.prog X.w) A (pyReprUnder base u) Q E s
/-- .. and by the call of repr itself -/
def RpT (X : Cx) (G0 : List Code) (k : Nat) (H : Hp) (v : V) (t : Str) : Prop :=
  ∀ (A : Around) (E : Value → Shared → Prop) (pins : List (Addr × Obj)) (σ : L2.St) (s : Shared) (H1 : Hp) (u : Value) (Q : Value → Shared → Prop),
    t.length ≤ sizeLine → A.guards = some G0 → A.frames = some X.stack → RoomH k A → Inv X pins σ H1 s → Same H H1 → RelV v u →
    (∀ s' H2 tk, Inv X pins σ H2 s' → Same H1 H2 → Q (.str t tk) s') → wpAny (model X.prog X.w) A (call (.builtin "repr") [u]) Q E s
theorem RpU.more {X : Cx} {G0 : List Code} {j k : Nat} {S U : Addr → Prop} {H : Hp} {v : V} {t : Str} (r : RpU X G0 j S H v t) (h : j ≤ k) (hs : ∀ b, S b → U b) : RpU X G0 k U H v t :=
  fun base A E pins σ s H1 u Q hb a I hsm rv hq => r base A E pins σ s H1 u Q hb (a.less h hs) I hsm rv hq
theorem RpU.later {X : Cx} {G0 : List Code} {k : Nat} {S : Addr → Prop} {H H' : Hp} {v : V} {t : Str} (r : RpU X G0 k S H v t) (s : Same H H') : RpU X G0 k S H' v t :=
  fun base A E pins σ s0 H1 u Q hb a I hs rv h => r base A E pins σ s0 H1 u Q hb a I (s.trans hs) rv h
theorem RpT.more {X : Cx} {G0 : List Code} {j k : Nat} {H : Hp} {v : V} {t : Str} (r : RpT X G0 j H v t) (h : j ≤ k) : RpT X G0 k H v t :=
  fun A E pins σ s H1 u Q hz hg hf hr I hs rv hq => r A E pins σ s H1 u Q hz hg hf (hr.mono h) I hs rv hq

/-! ### values without parts -/
theorem RpU.of_is {X : Cx} {G0 : List Code} {H : Hp} {v : V} {t : Str} (h : ∀ u, RelV v u → ReprIs X.prog X.w u t) : RpU X G0 0 (fun _ => False) H v t :=
  fun base A E pins σ s H1 u Q hb a I hs rv hq => h u rv base hb A E s Q fun tk => hq _ H1 (I.tok tk) (Same.refl _)
theorem RpU.int {X : Cx} {G0 : List Code} {H : Hp} {n : Int} (hn : n.natAbs.log2 < 1920) : RpU X G0 0 (fun _ => False) H (.int n) (toString n) :=
  .of_is fun u ⟨t, e⟩ => by rw [e]; exact ReprIs.int t hn
theorem RpU.str {X : Cx} {G0 : List Code} {H : Hp} {x : Str} (hx : (reprText x).length ≤ sizeLine) : RpU X G0 0 (fun _ => False) H (.str x) (reprText x) :=
  .of_is fun u ⟨t, e⟩ => by rw [e]; exact ReprIs.str x t hx
theorem RpU.bool {X : Cx} {G0 : List Code} {H : Hp} {b : Bool} : RpU X G0 0 (fun _ => False) H (.bl b) (if b then "True" else "False") :=
  .of_is fun u (e : u = _) => by rw [e]; exact ReprIs.bool b
theorem RpU.none {X : Cx} {G0 : List Code} {H : Hp} : RpU X G0 0 (fun _ => False) H .non "None" :=
  .of_is fun u (e : u = _) => by rw [e]; exact ReprIs.none
theorem RpT.int {X : Cx} {G0 : List Code} {H : Hp} {n : Int} (hn : n.natAbs.log2 < 1920) : RpT X G0 0 H (.int n) (toString n) := by
  rintro A E pins σ s H1 u Q hz hg hf hr I hs ⟨t, rfl⟩ hq
  exact PySem.P.repr_of_int hn (hq _ H1 _ (I.tok _) (Same.refl _))
theorem RpT.str {X : Cx} {G0 : List Code} {H : Hp} {x : Str} (hx : (reprText x).length ≤ sizeLine) : RpT X G0 0 H (.str x) (reprText x) := by
  rintro A E pins σ s H1 u Q hz hg hf hr I hs ⟨t, rfl⟩ hq
  exact PySem.P.repr_of_str (hq _ H1 _ (I.tok _) (Same.refl _)) hx
theorem RpT.bool {X : Cx} {G0 : List Code} {H : Hp} {b : Bool} : RpT X G0 0 H (.bl b) (if b then "True" else "False") := by
  intro A E pins σ s H1 u Q hz hg hf hr I hs rv hq
  obtain rfl : u = Value.bool b := rv
  exact PySem.P.repr_of_bool (hq _ H1 _ (I.tok _) (Same.refl _))
theorem RpT.none {X : Cx} {G0 : List Code} {H : Hp} : RpT X G0 0 H .non "None" := by
  intro A E pins σ s H1 u Q hz hg hf hr I hs rv hq
  obtain rfl : u = Value.none := rv
  exact PySem.P.repr_of_none (hq _ H1 _ (I.tok _) (Same.refl _))

section
variable {X : Cx} {G0 : List Code} {H : Hp} {a b : Addr} {ts : List Str} {xs : List V}
theorem tup_at {pins : List (Addr × Obj)} {σ : L2.St} {s : Shared} {H1 : Hp} (I : Inv X pins σ H1 s) (h : H1 a = some (.tup xs)) :
    ∃ (o : Obj) (its : List Value) (n : Nat), s.heap.get? a = some o ∧ o.cls = .type "tuple" ∧ o.data = .seq its.toArray n ∧ Vals xs its := by
  obtain ⟨_, its, r, o, h1, h2, n, h3⟩ := (show ObjOk X.prog X.w H1 s.heap a (.tup xs) from I.hok a _ h)
  exact ⟨o, its, n, h1, h2, h3, r⟩
theorem lst_at {pins : List (Addr × Obj)} {σ : L2.St} {s : Shared} {H1 : Hp} (I : Inv X pins σ H1 s) (h : H1 a = some (.lst xs)) :
    ∃ (its : List Value) (n : Nat), s.heap.get? a = some { cls := .type "list", data := .seq its.toArray n } ∧ Vals xs its := by
  obtain ⟨_, its, n, r, h1⟩ := (show ObjOk X.prog X.w H1 s.heap a (.lst xs) from I.hok a _ h)
  exact ⟨its, n, h1, r⟩
end

/-- each item is shown by its text -/
def RpAll (X : Cx) (G0 : List Code) (k : Nat) (S : Addr → Prop) (H : Hp) (xs : List V) (ts : List Str) : Prop := ts.length = xs.length ∧ ∀ (i : Nat) (x : V), xs[i]? = some x → ∃ t, ts[i]? = some t ∧ RpU X G0 k S H x t
theorem RpAll.tail {X : Cx} {G0 : List Code} {k : Nat} {S : Addr → Prop} {H : Hp} {x : V} {xs : List V} {t : Str} {ts : List Str} (h : RpAll X G0 k S H (x :: xs) (t :: ts)) : RpU X G0 k S H x t ∧ RpAll X G0 k S H xs ts := by
  refine ⟨?_, by have := h.1; simpa using this, fun i y e => ?_⟩
  · obtain ⟨t', e1, r⟩ := h.2 0 x rfl
    cases e1
    exact r
  · obtain ⟨t', e1, r⟩ := h.2 (i + 1) y (by simpa using e)
    exact ⟨t', by simpa using e1, r⟩

/-! ### lists -/
theorem under_frames {A : Around} {id : String} {args : Args} {l : List Env} (h : A.frames = some l) : (A.under (.builtin id args)).frames = some l := by
  first | exact h | (simpa [Around.under, Code.envs, Code.isFrame, pushEnvs] using h)
theorem At.loop {X : Cx} {G0 : List Code} {k : Nat} {A : Around} {a : Addr} {S : Addr → Prop} {id : String} {rest : List Value} (t : At X G0 (k + 1) A S) (hn : ¬ S a) (hcg : (Code.builtin id ⟨.ref a :: rest, []⟩).isGuard = true) (hw : (Code.builtin id ⟨.ref a :: rest, []⟩).weight = 1)
    (hcu : (A.under (.builtin id ⟨.ref a :: rest, []⟩)).units = A.units + 1) : At X G0 k (A.under (.builtin id ⟨.ref a :: rest, []⟩)) S := by
  obtain ⟨g, h1, h2⟩ := t.gd
  refine ⟨under_frames t.fr, ⟨?_, ?_⟩, _, guards_under_guard hcg h1, fun b hb => (h2 b hb).cons (a := a) fun e => hn (e ▸ hb)⟩
  · rw [show (A.under (.builtin id ⟨.ref a :: rest, []⟩)).depth = A.depth + 1 from congrArg (A.depth + ·) hw]; have := t.room.dp; omega
  · rw [hcu]; have := t.room.un; omega
theorem weight_loop (args : Args) : (Code.builtin "list.__repr__.loop" args).weight = 1 := by
  have e := isGuard_list_loop args
  have c1 : (Code.builtin "list.__repr__.loop" args).isCreation = false := by
    first | rfl | (simp [Code.isCreation])
  have c2 : (Code.builtin "list.__repr__.loop" args).isCaller = false := by
    first | rfl | (simp [Code.isCaller])
  unfold Code.weight
  rw [e, c1, c2]
  rfl
theorem weight_tup (args : Args) : (Code.builtin "tuple.__repr__" args).weight = 1 := by
  have e := isGuard_tuple_repr args
  have c1 : (Code.builtin "tuple.__repr__" args).isCreation = false := by
    first | rfl | (simp [Code.isCreation])
  have c2 : (Code.builtin "tuple.__repr__" args).isCaller = false := by
    first | rfl | (simp [Code.isCaller])
  unfold Code.weight
  rw [e, c1, c2]
  rfl
theorem weight_tupU (args : Args) : (Code.builtin "tuple.__repr__.under" args).weight = 1 := by
  have e := isGuard_tuple_repr_under args
  have c1 : (Code.builtin "tuple.__repr__.under" args).isCreation = false := by
    first | rfl | (simp [Code.isCreation])
  have c2 : (Code.builtin "tuple.__repr__.under" args).isCaller = false := by
    first | rfl | (simp [Code.isCaller])
  unfold Code.weight
  rw [e, c1, c2]
  rfl
theorem weight_dct (args : Args) : (Code.builtin "dict.__repr__" args).weight = 1 := by
  have e := isGuard_dict_repr args
  have c1 : (Code.builtin "dict.__repr__" args).isCreation = false := by
    first | rfl | (simp [Code.isCreation])
  have c2 : (Code.builtin "dict.__repr__" args).isCaller = false := by
    first | rfl | (simp [Code.isCaller])
  unfold Code.weight
  rw [e, c1, c2]
  rfl
theorem weight_dctU (args : Args) : (Code.builtin "dict.__repr__.under" args).weight = 1 := by
  have e := isGuard_dict_repr_under args
  have c1 : (Code.builtin "dict.__repr__.under" args).isCreation = false := by
    first | rfl | (simp [Code.isCreation])
  have c2 : (Code.builtin "dict.__repr__.under" args).isCaller = false := by
    first | rfl | (simp [Code.isCaller])
  unfold Code.weight
  rw [e, c1, c2]
  rfl
end K18R

/-! repr of lists, tuples, dicts that hold own instances. -/
namespace K18R
open PySem PySem.Spec PyProof.Rows L2 L2H K1
open Builtin
open Builtin.List

section
variable {X : Cx} {G0 : List Code} {H : Hp} {a P : Addr} {xs : List V} {ts : List Str} {S : Addr → Prop} {k base : Nat} {A : Around} {pins : List (Addr × Obj)} {σ : L2.St} {R : Result → Shared → Prop}
theorem loop_own (hne : a ≠ P) (hP0 : H P = none) (hn : ¬ S a) (at_ : At X G0 (k + 1) A S) (ha : H a = some (.lst xs)) (r : RpAll X G0 k S H xs ts) (hsz : base + (listText ts).length ≤ sizeLine) :
    ∀ (n i : Nat) (s : Shared) (H1 : Hp), xs.length - i = n → i ≤ xs.length → Inv X pins σ H1 s → Same H H1 → H1 P = some (.lst ((ts.take i).map V.str)) →
    (∀ s' H2 u, Inv X pins σ H2 s' → Same H H2 → (∀ b o, b ≠ P → H1 b = some o → H2 b = some o) → R (.ok (.ret (.str (listText ts) u))) s') →
    codeAny (model X.prog X.w) A (.builtin "list.__repr__.loop" ⟨[.ref a, rawInt i, .ref P, rawInt ((base + piled (ts.take i) : Nat) : Int)], []⟩) R s := by
  have hL := textFrom_len ts 0 "["
  have hX : (listText ts).length = (textFrom 0 "[" ts).length + 1 := by
    show (textFrom 0 "[" ts ++ "]").length = _
    rw [strLen_append]; rfl
  have hsz2 : ∀ t ∈ ts, t.length ≤ sizeLine := fun t ht => by
    have h2 := hL.2.1 t ht
    omega
  have hsz1 : ts.length ≤ sizeLine := by
    have h1 := hL.1
    rw [if_neg (Nat.lt_irrefl 0)] at h1
    omega
  have hp3 := piled_le_listText ts
  intro n
  induction n with
  | zero =>
    intro i s H1 hk hi I hs hP hR
    have hin : i = xs.length := by omega
    obtain ⟨its, na, h1, rv⟩ := lst_at I (hs _ _ ha)
    obtain ⟨ps, np, h2, rp⟩ := lst_at I hP
    refine codeAny_builtin F.entry_list_repr_loop ?_
    show wpAny _ _ («list.__repr__.loop» ⟨[.ref a, .int i 0, .ref P, .int ((base + piled (ts.take i) : Nat) : Int) 0], []⟩) _ _ s
    rw [repr_loop_tree]
    refine wpAny_bind (wpAny_listItems h1 rfl ?_)
    have hnone : its.toArray[(i : Int).toNat]? = none := by simp [hin, rv.length]
    simp only [hnone]
    unfold reprEnd
    refine wpAny_bind (wpAny_listItems h2 rfl ?_)
    have hall : ts.take i = ts := by rw [hin, ← r.1, List.take_length]
    rw [hall] at rp
    have asStrs : ∀ (l : List Str) (us : List Value), Vals (l.map V.str) us → ∃ d : List (Str × Tok), us = strValues d ∧ d.map (·.1) = l := by
      intro l
      induction l with
      | nil => intro us z; cases z; exact ⟨[], rfl, rfl⟩
      | cons x l ih =>
        intro us z
        cases z with
        | cons z1 z2 =>
          obtain ⟨t, rfl⟩ := z1
          obtain ⟨d, rfl, e⟩ := ih _ z2
          exact ⟨(x, t) :: d, rfl, by simp [e]⟩
    obtain ⟨d, e1, e2⟩ := asStrs ts ps rp
    have e3 : ps.toArray.toList = strValues d := by simp [e1]
    rw [e3, repr_fold]
    refine wpAny_bind (wpAny_pure ?_)
    rw [e2]
    refine wpAny_bind (wpAny_mkStr (wpAny_pure ?_) (Nat.le_trans (Nat.le_add_left _ _) hsz))
    exact hR _ H1 _ (I.tok _) hs (fun b o _ e => e)
  | succ n ih =>
    intro i s H1 hk hi I hs hP hR
    have hlt : i < xs.length := by omega
    obtain ⟨its, na, h1, rv⟩ := lst_at I (hs _ _ ha)
    obtain ⟨t, ht, hrep⟩ := r.2 i xs[i] (List.getElem?_eq_getElem hlt)
    obtain ⟨u, hu, ru⟩ := rv.get (List.getElem?_eq_getElem hlt)
    have hp1 := piled_take_succ ht
    have hp2 := piled_take_le ts (i + 1)
    refine codeAny_builtin F.entry_list_repr_loop ?_
    show wpAny _ _ («list.__repr__.loop» ⟨[.ref a, .int i 0, .ref P, .int ((base + piled (ts.take i) : Nat) : Int) 0], []⟩) _ _ s
    rw [repr_loop_tree]
    refine wpAny_bind (wpAny_listItems h1 rfl ?_)
    have hsome : its.toArray[(i : Int).toNat]? = some u := by simpa using hu
    simp only [hsome]
    rw [Int.toNat_natCast]
    refine wpAny_bind (wpAny_holding (hrep (base + piled (ts.take i) + 1) _ _ pins σ s H1 u _ (by omega) (at_.loop hn (isGuard_list_loop _) (weight_loop _) (units_under_list_loop _ _)) I hs ru fun s' H2 I2 hs2 => ?_))
    refine wpAny_bind (wpAny_mkStr ?_ (hsz2 t (List.mem_of_getElem? ht)))
    refine wpAny_bind ?_
    show wpAny _ _ (updateSeq P _) _ _ _
    have I3 := I2.tok (s'.toks + 1)
    have hP2 := hs2 _ _ hP
    obtain ⟨zp, ps, np, rp, h2⟩ := (show ObjOk X.prog X.w H2 s'.heap P _ from I2.hok P _ hP2)
    have lp : ps.length = i := by
      rw [← Paired.length rp]
      simp
      rw [r.1]; omega
    have pz : ps.toArray.size ≤ sizeLine := by
      show ps.length ≤ _
      rw [lp, ← r.1] at *
      omega
    have rvs : Vals ((ts.take (i + 1)).map V.str) (ps ++ [.str t s'.toks]) := by
      rw [List.take_add_one, ht]
      simp only [Option.toList, List.map_append, List.map_cons, List.map_nil]
      exact rp.append (.cons ⟨_, rfl⟩ .nil)
    have lz : ((ts.take (i + 1)).map V.str).length ≤ sizeLine := by
      rw [List.length_map, List.length_take]
      omega
    have J := I3.lset (l := P) (f := fun p => p.push (.str t s'.toks)) (t' := s'.toks + 1) hP2 h2 (by simp) rvs lz
    refine wpAny_updateSeq h2 rfl (wpAny_pure ⟨F.quiet_list_repr_loop _, ?_⟩) pz
    have e1 : ((i : Int) + 1) = ((i + 1 : Nat) : Int) := by omega
    have e2 : base + piled (ts.take i) + (t.length + 2) = base + piled (ts.take (i + 1)) := by omega
    rw [e1, e2]
    have sP : ∀ b o, b ≠ P → H2 b = some o → upd H2 P (.lst ((ts.take (i + 1)).map V.str)) b = some o := fun b o hb e => by rw [upd_ne hb]; exact e
    have hs3 : Same H (upd H2 P (.lst ((ts.take (i + 1)).map V.str))) := fun b o e => sP b o (ne_of_none e hP0) (hs2 _ _ (hs _ _ e))
    refine ih (i + 1) _ _ (by omega) hlt J hs3 upd_same fun s4 H4 u4 I4 hs4 k4 => ?_
    exact hR s4 H4 u4 I4 hs4 fun b o hb e => k4 b o hb (sP b o hb (hs2 _ _ e))
end
section
variable {X : Cx} {G0 : List Code} {H : Hp} {a : Addr} {x0 : V} {r0 : List V} {ts : List Str} {S : Addr → Prop} {k base : Nat} {A : Around} {pins : List (Addr × Obj)} {σ : L2.St} {R : Result → Shared → Prop} {s : Shared} {H1 : Hp}
/-- a frame below is at work on this list -/
def lstF (a : Addr) : Code × Pos → Bool := fun
  | (.builtin "list.__repr__.loop" ⟨v :: _, _⟩, _) => Builtin.List.listSameRef v (.ref a)
  | _ => false
theorem lstF_off (a : Addr) (c : Code) (p : Pos) (h : c.isGuard = false) : lstF a (c, p) = false := by
  unfold lstF
  split
  · next heq => cases heq; simp [Code.isGuard, guardIds] at h
  · rfl
theorem lstF_pos (a : Addr) (c : Code) (p : Pos) : lstF a (c, p) = lstF a (c, default) := by
  cases c with
  | builtin id args =>
    obtain ⟨pos, kw⟩ := args
    cases pos with
    | nil =>
      have e : ∀ q, lstF a (Code.builtin id ⟨[], kw⟩, q) = false := fun q => by
        unfold lstF
        split
        · next heq => cases heq
        · rfl
      rw [e, e]
    | cons v rest =>
      unfold lstF
      split
      · next heq => cases heq; rfl
      · next h =>
        split
        · next heq => cases heq; exact absurd rfl (h _ _ _ _)
        · rfl
  | _ => rfl
def hitL (G0 : List Code) (a : Addr) : Bool := G0.any fun c => lstF a (c, default)
theorem hitL_no (h : hitL G0 a = false) (v : Value) (rest : List Value) (kw : List (Str × Value)) (hm : Code.builtin "list.__repr__.loop" ⟨v :: rest, kw⟩ ∈ G0) : Builtin.List.listSameRef v (.ref a) = false := by
  have z := List.any_eq_false.mp h _ hm
  cases q : Builtin.List.listSameRef v (.ref a) with
  | false => rfl
  | true => exact absurd (show lstF a (Code.builtin "list.__repr__.loop" ⟨v :: rest, kw⟩, default) = true from q) z
theorem hit_own (at_ : At X G0 k A S) (ha : H a = some (.lst (x0 :: r0))) (hit : hitL G0 a = true) (I : Inv X pins σ H1 s) (hs : Same H H1) {c : Code}
    (hR : ∀ s' u, Inv X pins σ H1 s' → R (.ok (.ret (.str "[...]" u))) s') :
    wpOwn (model X.prog X.w) A c (Builtin.listReprAt base ⟨[.ref a], []⟩)
      (fun fin s' => match fin with | .done f => R (.ok f) s' | .again c' => c'.quiet = true ∧ codeAny (model X.prog X.w) A c' R s') (fun e s' => R (.error e) s') s := by
  obtain ⟨g, g1, g2⟩ := at_.gd
  obtain ⟨its, na, h1, rv⟩ := lst_at I (hs _ _ ha)
  cases rv with
  | @cons _ u0 _ ur q0 q1 =>
    unfold Builtin.listReprAt
    refine wpOwn_bind (wpOwn_of_wpAny (show wpAny _ _ (pure (Value.ref a, ([] : List Value))) _ _ s from wpAny_pure ?_))
    refine wpOwn_bind (wpOwn_of_wpAny (wpAny_listItems h1 rfl ?_))
    rw [if_neg (by simp)]
    refine wpOwn_bind (wpOwn_stack fun p below hgd _ _ => ?_)
    have any : (((c, p) :: below).tail.any (lstF a)) = true := by
      show below.any (lstF a) = true
      rw [any_eq_guards (lstF_off a) (lstF_pos a), hgd _ g1, List.any_append, show (G0.any fun c => lstF a (c, default)) = true from hit, Bool.or_true]
    show wpOwn _ _ _ (if ((c, p) :: below).tail.any (lstF a) = true then _ else _) _ _ s
    rw [if_pos any]
    refine wpOwn_of_wpAny (wpAny_bind (wpAny_rule ?_))
    refine wpAny_bind (wpAny_mkStr (wpAny_pure ?_) (by decide +kernel))
    exact hR _ s.toks (I.tok (s.toks + 1))
theorem head_own (hno : hitL G0 a = false) (hn : ¬ S a) (at_ : At X G0 (k + 1) A (fun b => b = a ∨ S b)) (ha : H a = some (.lst (x0 :: r0))) (r : RpAll X G0 k S H (x0 :: r0) ts) (hsz : base + (listText ts).length ≤ sizeLine) (I : Inv X pins σ H1 s) (hs : Same H H1)
    (hR : ∀ s' H2 u, Inv X pins σ H2 s' → Same H1 H2 → R (.ok (.ret (.str (listText ts) u))) s') :
    wpAny (model X.prog X.w) A.in1 (Builtin.listReprAt base ⟨[.ref a], []⟩)
      (fun fin s' => match fin with | .done f => R (.ok f) s' | .again c' => c'.quiet = true ∧ codeAny (model X.prog X.w) A c' R s') (fun e s' => R (.error e) s') s := by
  obtain ⟨g, g1, g2⟩ := at_.gd
  obtain ⟨its, na, h1, rv⟩ := lst_at I (hs _ _ ha)
  have hca : Clear g a := g2 a (.inl rfl)
  cases rv with
  | @cons _ u0 _ ur q0 q1 =>
    refine wpAny_list_repr_head (A := A.in1) g1 (fun v rest kw hm => (List.mem_append.mp hm).elim (fun hm => listSameRef_of_ne (hca _ _ _ _ hm)) fun hm => hitL_no hno v rest kw hm) h1 rfl ?_
    refine wpAny_bind (m := newList []) (wpAny_newObj_type ?_)
    refine wpAny_pure ⟨F.quiet_list_repr_loop _, ?_⟩
    have hP : H1 s.heap.objs.size = none := I.hok.fresh (Nat.le_refl _)
    have J := I.lnew (its := []) (ys := []) (t' := s.toks) .nil (Nat.zero_le _)
    have hP0 : H s.heap.objs.size = none := hs.free hP
    have hne : a ≠ s.heap.objs.size := ne_of_none ha hP0
    have sm : Same H1 (upd H1 s.heap.objs.size (.lst [])) := fun b o e => by rw [upd_ne (ne_of_none e hP)]; exact e
    refine loop_own (P := s.heap.objs.size) hne hP0 hn (at_.less (Nat.le_refl _) fun b hb => .inr hb) ha r hsz _ 0 _ _ rfl (Nat.zero_le _) J (hs.trans sm) (by simpa using upd_same) fun s' H2 u I2 hs2 k2 => ?_
    exact hR s' H2 u I2 fun b o e => k2 b o (ne_of_none e hP) (sm b o e)
end
section
variable {X : Cx} {G0 : List Code} {H : Hp} {a : Addr} {x0 : V} {r0 : List V} {ts : List Str} {S : Addr → Prop} {k : Nat}
theorem RpU.lst (hno : hitL G0 a = false) (hn : ¬ S a) (ha : H a = some (.lst (x0 :: r0))) (r : RpAll X G0 k S H (x0 :: r0) ts) : RpU X G0 (k + 1) (fun b => b = a ∨ S b) H (.ref a) (listText ts) := by
  intro base A E pins σ s H1 u Q hb at_ I hs rv hq
  obtain rfl : u = Value.ref a := rv
  obtain ⟨its, na, h1, rv⟩ := lst_at I (hs _ _ ha)
  have hT : s.TypeIs (.ref a) "list" := ⟨_, h1, rfl⟩
  refine wpAny_pyReprUnder_ref (by omega) (wpAny_pyReprObjUnder_twin (twin := "list.__repr__.under") hT F.slot_list_repr.toG rfl (by have := at_.room.un; omega)
    (call_twin_plain F.plain_list_repr_under F.entry_list_repr_under F.check_list_repr_under hT F.slot_list_repr.toG (F.args_list_repr_1 _) ?_))
  exact head_own hno hn at_ ha r hb I hs fun s' H2 u I2 hs2 => ⟨⟨_, _, rfl⟩, _, _, rfl, hq s' H2 I2 hs2⟩
theorem RpT.lst (hno : hitL G0 a = false) (hn : ¬ S a) (ha : H a = some (.lst (x0 :: r0))) (r : RpAll X G0 k S H (x0 :: r0) ts) : RpT X G0 (k + 2) H (.ref a) (listText ts) := by
  intro A E pins σ s H1 u Q hz hg hf hr I hs rv hq
  obtain rfl : u = Value.ref a := rv
  obtain ⟨its, na, h1, rv⟩ := lst_at I (hs _ _ ha)
  have hT : s.TypeIs (.ref a) "list" := ⟨_, h1, rfl⟩
  have at_ : At X G0 (k + 2) A (fun b => b = a ∨ S b) := ⟨hf, hr, [], hg, fun b _ => Clear.nil b⟩
  refine call_repr_slot (by have := hr.un; omega) hT F.slot_list_repr.toG ?_
  refine wpAny_call (codeAny_call_builtin F.slot_list_repr.plain F.entry_list_repr (F.slot_list_repr.check _ _ _ _ _ _ _ _ hT (F.args_list_repr_1 _) ?_))
  exact head_own (base := 0) (A := A.in1) (R := fun r s' => match r with
    | .ok (.ret v) => ∃ x t, v = Value.str x t ∧ Q v s'
    | .ok _ => False
    | .error e => E e s') hno hn at_.in1 ha r (by omega) I hs fun s' H2 u I2 hs2 => ⟨_, _, rfl, hq s' H2 _ I2 hs2⟩
theorem RpU.lstHit (ha : H a = some (.lst (x0 :: r0))) (hit : hitL G0 a = true) : RpU X G0 0 (fun _ => False) H (.ref a) "[...]" := by
  intro base A E pins σ s H1 u Q hb at_ I hs rv hq
  obtain rfl : u = Value.ref a := rv
  obtain ⟨its, na, h1, rv⟩ := lst_at I (hs _ _ ha)
  have hT : s.TypeIs (.ref a) "list" := ⟨_, h1, rfl⟩
  refine wpAny_pyReprUnder_ref (by omega) (wpAny_pyReprObjUnder_twin (twin := "list.__repr__.under") hT F.slot_list_repr.toG rfl (by have := at_.room.un; omega)
    (call_twin_own (Code.quiet_builtin _ (by decide +kernel)) F.entry_list_repr_under F.check_list_repr_under hT F.slot_list_repr.toG (F.args_list_repr_1 _) ?_))
  exact hit_own at_ ha hit I hs fun s' u I2 => ⟨⟨_, _, rfl⟩, _, _, rfl, hq s' H1 I2 (Same.refl _)⟩
theorem RpT.lstHit (ha : H a = some (.lst (x0 :: r0))) (hit : hitL G0 a = true) : RpT X G0 1 H (.ref a) "[...]" := by
  intro A E pins σ s H1 u Q hz hg hf hr I hs rv hq
  obtain rfl : u = Value.ref a := rv
  obtain ⟨its, na, h1, rv⟩ := lst_at I (hs _ _ ha)
  have hT : s.TypeIs (.ref a) "list" := ⟨_, h1, rfl⟩
  have at_ : At X G0 1 A (fun _ => False) := ⟨hf, hr, [], hg, fun b z => z.elim⟩
  refine call_repr_slot (by have := hr.un; omega) hT F.slot_list_repr.toG ?_
  refine wpAny_call (codeAny_call_builtin_own (Code.quiet_builtin _ (by decide +kernel)) F.entry_list_repr (F.slot_list_repr.check _ _ _ _ _ _ _ _ hT (F.args_list_repr_1 _) ?_))
  exact hit_own (base := 0) (R := callEnd (fun v s' => ∃ x t, v = Value.str x t ∧ Q v s') E) at_.in1 ha hit I hs fun s' u I2 => ⟨_, _, rfl, hq s' H1 _ I2 (Same.refl _)⟩
theorem RpT.nilL (ha : H a = some (.lst [])) : RpT X G0 0 H (.ref a) "[]" := by
  intro A E pins σ s H1 u Q hz hg hf hr I hs rv hq
  obtain rfl : u = Value.ref a := rv
  obtain ⟨its, na, h1, rv⟩ := lst_at I (hs _ _ ha)
  cases rv
  have hT : s.TypeIs (.ref a) "list" := ⟨_, h1, rfl⟩
  exact call_repr_slot (by have := hr.un; omega) hT F.slot_list_repr.toG (call_list_repr_empty hT h1 rfl ⟨_, _, rfl, hq _ H1 _ (I.tok _) (Same.refl _)⟩)
/-- repr(v): wherever the guards are none -/
def rRepr (X : Cx) (G0 : List Code) : List V → Hp → VK → Prop := fun xs H Q => ∃ (v : V) (k : Nat) (t : Str), xs = [v] ∧ RpT X G0 k H v t ∧ RoomH k X.A ∧ t.length ≤ sizeLine ∧ ∀ H', Same H H' → Q (.str t) H'
theorem call_reprX (hg : X.A.guards = some G0) : CallR X (.builtin "repr") (rRepr X G0) := by
  intro pins s σ H xs us Q I r h
  obtain ⟨v, k, t, rfl, h, hr, hz, q⟩ := h
  obtain ⟨u, rfl, ru⟩ := Vals.one r
  exact h X.A X.xe pins σ s H u _ hz hg I.ok.frames hr I (Same.refl _) ru fun s' H2 tk I2 hs2 => ⟨.str t, H2, I2, ⟨tk, rfl⟩, q H2 hs2⟩
end
end K18R

/-! repr of tuples and dicts that hold own instances. -/
namespace K18R
open PySem PySem.Spec PyProof.Rows L2 L2H K1
open Builtin

section
variable {X : Cx} {G0 : List Code} {H : Hp} {S : Addr → Prop} {k : Nat} {A : Around} {E : Value → Shared → Prop} {pins : List (Addr × Obj)} {σ : L2.St}
theorem tup_fold (at_ : At X G0 k A S) : ∀ (xs : List V) (us : List Value) (ts : List Str) (acc : Array Str) (n : Nat) (s : Shared) (H1 : Hp) (Q : (Array Str × Nat) → Shared → Prop),
    Vals xs us → RpAll X G0 k S H xs ts → n + piled ts ≤ sizeLine → Inv X pins σ H1 s → Same H H1 →
    (∀ s' H2, Inv X pins σ H2 s' → Same H1 H2 → Q ⟨acc ++ ts.toArray, n + piled ts⟩ s') →
    wpAny (model X.prog X.w) A (forIn us (⟨acc, n⟩ : (Array Str × Nat)) tupBody) Q E s := by
  intro xs
  induction xs with
  | nil =>
    intro us ts acc n s H1 Q r hT _ I hs h
    cases r
    have e : ts = [] := List.length_eq_zero_iff.mp hT.1
    subst e
    have h0 := h s H1 I (Same.refl _)
    simp only [List.forIn_nil]
    exact wpAny_pure (by simpa [piled] using h0)
  | cons x xs ih =>
    intro us ts acc n s H1 Q r hT hn I hs h
    cases r with
    | @cons _ u _ us' rx r' =>
      obtain ⟨t, ts', rfl⟩ : ∃ t ts', ts = t :: ts' := by
        cases ts with
        | nil => have := hT.1; simp at this
        | cons t ts' => exact ⟨t, ts', rfl⟩
      obtain ⟨hx, hl⟩ := hT.tail
      rw [piled_cons] at hn
      rw [List.forIn_cons]
      refine wpAny_bind (wpAny_bind (hx (n + 1) _ _ pins σ s H1 u _ (by omega) at_ I hs rx fun s' H2 I2 hs2 => wpAny_pure ?_))
      refine ih us' ts' (acc.push t) (n + (t.length + 2)) _ H2 Q r' hl (by omega) I2 (hs.trans hs2) fun s3 H3 I3 hs3 => ?_
      have h1 := h s3 H3 I3 (hs2.trans hs3)
      have e : n + piled (t :: ts') = n + (t.length + 2) + piled ts' := by rw [piled_cons]; omega
      rw [e] at h1
      simpa using h1
end

section
variable {X : Cx} {G0 : List Code} {H : Hp} {a : Addr} {xs : List V} {ts : List Str} {S : Addr → Prop} {k : Nat}
def hitT (G0 : List Code) (a : Addr) : Bool := G0.any fun c => tupGuardF (.ref a) (c, default)
def hitD (G0 : List Code) (a : Addr) : Bool := G0.any fun c => dictGuardF (.ref a) (c, default)
theorem own_tup (hno : hitT G0 a = false) (hn : ¬ S a) (ha : H a = some (.tup xs)) (r : RpAll X G0 k S H xs ts) {A : Around} {s : Shared} {H1 : Hp} {pins : List (Addr × Obj)} {σ : L2.St} {R : Result → Shared → Prop} {base : Nat} {id : String} {rest : List Value}
    (hcg : (Code.builtin id ⟨.ref a :: rest, []⟩).isGuard = true) (hw : (Code.builtin id ⟨.ref a :: rest, []⟩).weight = 1) (hcu : (A.under (.builtin id ⟨.ref a :: rest, []⟩)).units = A.units + 1)
    (at_ : At X G0 (k + 1) A (fun b => b = a ∨ S b)) (I : Inv X pins σ H1 s) (hs : Same H H1) (hsz : base + (tupleText ts).length ≤ sizeLine)
    (hR : ∀ s' H2 u, Inv X pins σ H2 s' → Same H1 H2 → R (.ok (.ret (.str (tupleText ts) u))) s') :
    wpOwn (model X.prog X.w) A (.builtin id ⟨.ref a :: rest, []⟩) (Builtin.tupleReprAt base ⟨[.ref a], []⟩) (fun fin s' => match fin with | .done f => R (.ok f) s' | .again c' => c'.quiet = true ∧ codeAny (model X.prog X.w) A c' R s') (fun e s' => R (.error e) s') s := by
  obtain ⟨g, hg, hcl⟩ := at_.gd
  obtain ⟨o, its, n, h1, h2, h3, rv⟩ := tup_at I (hs _ _ ha)
  have hca : Clear g a := hcl a (.inl rfl)
  have hlen : ts.length = its.toArray.size := by rw [r.1, rv.length]; simp
  have hp := piled_le_tupleText ts
  have hsz0 : (tupleText ts).length ≤ sizeLine := by omega
  rw [tuple_repr_tree, tupleReprUnderWay_eq]
  refine wpOwn_bind (wpOwn_stackTailAny hg (tupGuardF_off _) (tupGuardF_pos _) ?_)
  have hnn : ((g ++ G0).any fun c => tupGuardF (.ref a) (c, default)) = false := by
    rw [List.any_append, show (G0.any fun c => tupGuardF (.ref a) (c, default)) = false from hno, Bool.or_false, List.any_eq_false]
    intro c hcm
    rw [tupGuardF_of_clear hca c hcm]
    exact Bool.false_ne_true
  rw [hnn]
  refine wpOwn_of_wpAny ?_
  show wpAny _ _ (tupleReprRest base (.ref a)) _ _ s
  unfold tupleReprRest Builtin.Tuple.tupleItemsOf
  refine wpAny_bind (wpAny_bind (wpAny_seqItems h1 h3 (wpAny_pure ?_)))
  rw [← Array.forIn_toList]
  have a2 := (at_.less (j := k + 1) (U := S) (Nat.le_refl _) fun b hb => .inr hb).loop (rest := rest) hn hcg hw hcu
  refine wpAny_bind (tup_fold a2 xs its ts _ _ s H1 _ rv r (by omega) I hs fun s' H2 I2 hs2 => ?_)
  refine wpAny_bind (wpAny_mkStr (wpAny_pure ?_) (by simpa [tupleText, hlen] using hsz0))
  have h1 := hR _ H2 s'.toks (I2.tok (s'.toks + 1)) hs2
  simpa [tupleText, hlen] using h1
theorem RpU.tup (hno : hitT G0 a = false) (hn : ¬ S a) (ha : H a = some (.tup xs)) (r : RpAll X G0 k S H xs ts) : RpU X G0 (k + 1) (fun b => b = a ∨ S b) H (.ref a) (tupleText ts) := by
  intro base A E pins σ s H1 u Q hb at_ I hs rv hq
  obtain rfl : u = Value.ref a := rv
  obtain ⟨o, its, n, h1, h2, h3, rv⟩ := tup_at I (hs _ _ ha)
  have hT : s.TypeIs (.ref a) "tuple" := ⟨o, h1, h2⟩
  refine wpAny_pyReprUnder_ref (by omega) (wpAny_pyReprObjUnder_twin (twin := "tuple.__repr__.under") hT F.slot_tuple_repr rfl (by have := at_.room.un; omega)
    (call_twin_own (F.quiet_tuple_repr_under _) F.entry_tuple_repr_under F.check_tuple_repr_under hT F.slot_tuple_repr (F.args_tuple_repr_1 _) ?_))
  exact own_tup hno hn ha r (isGuard_tuple_repr_under _) (weight_tupU _) (units_under_tuple_repr_under _ _) at_ I hs hb fun s' H2 u I2 hs2 => ⟨⟨_, _, rfl⟩, _, _, rfl, hq s' H2 I2 hs2⟩
theorem RpT.tup (hno : hitT G0 a = false) (hn : ¬ S a) (ha : H a = some (.tup xs)) (r : RpAll X G0 k S H xs ts) : RpT X G0 (k + 2) H (.ref a) (tupleText ts) := by
  intro A E pins σ s H1 u Q hz hg hf hr I hs rv hq
  obtain rfl : u = Value.ref a := rv
  obtain ⟨o, its, n, h1, h2, h3, rv⟩ := tup_at I (hs _ _ ha)
  have hT : s.TypeIs (.ref a) "tuple" := ⟨o, h1, h2⟩
  have at_ : At X G0 (k + 2) A (fun b => b = a ∨ S b) := ⟨hf, hr, [], hg, fun b _ => Clear.nil b⟩
  refine call_repr_slot (by have := hr.un; omega) hT F.slot_tuple_repr ?_
  refine wpAny_call (codeAny_call_builtin_own (Code.quiet_builtin _ (by decide +kernel)) F.entry_tuple_repr (F.slot_tuple_repr.check _ _ _ _ _ _ _ _ hT (F.args_tuple_repr_1 _) ?_))
  exact own_tup (base := 0) (rest := []) (R := callEnd (fun v s' => ∃ x t, v = Value.str x t ∧ Q v s') E) hno hn ha r (isGuard_tuple_repr _) (weight_tup _) (units_under_tuple_repr _ _) at_.in1 I hs (by omega) fun s' H2 u I2 hs2 => ⟨_, _, rfl, hq s' H2 _ I2 hs2⟩
end

/-! ### dicts -/
/-- all but what stands at p -/
def hide (p : Addr) (H : Hp) : Hp := fun b => if b = p then none else H b
theorem hide_ne {p b : Addr} {H : Hp} (h : b ≠ p) : hide p H b = H b := if_neg h
theorem hide_of {p b : Addr} {H : Hp} {o : HO} (h : hide p H b = some o) : b ≠ p ∧ H b = some o := by
  unfold hide at h
  by_cases e : b = p
  · rw [if_pos e] at h; cases h
  · rw [if_neg e] at h; exact ⟨e, h⟩
theorem hide_same {p : Addr} {H : Hp} : Same (hide p H) H := fun b o e => (hide_of e).2
/-- each entry is shown by its key's text and its value's -/
def RpEnt (X : Cx) (G0 : List Code) (k : Nat) (S : Addr → Prop) (H : Hp) (kvs : List (Key × V)) (ps : List Str) : Prop :=
  ps.length = kvs.length ∧ ∀ (i : Nat) (p : Key × V), kvs[i]? = some p → ∃ tk tv : Str, ps[i]? = some (tk ++ ": " ++ tv) ∧ (∀ u, keyIs p.1 u = true → ReprIs X.prog X.w u tk) ∧ RpU X G0 k S H p.2 tv
/-- the entries of a dict's object -/
theorem dct_ent {P : Program} {w : World} {H : Hp} {h : Heap} {a : Addr} {kvs : List (Key × V)} {o : Obj} (x : ObjOk P w H h a (.dK kvs)) (ho : h.get? a = some o) :
    ∃ (es : Array DictEntry) (n : Nat), o.cls = .type "dict" ∧ o.data = .dict es n ∧ (a == sysModules) = false ∧ es.size = kvs.length ∧
      ∀ (i : Nat) (p : Key × V) (e : DictEntry), kvs[i]? = some p → es[i]? = some e → keyIs p.1 e.key = true ∧ RelV p.2 e.val := by
  obtain ⟨_, hsys, vs, kvr, o', es, ep, h1, h2, h3, _, h5, _⟩ := x
  rw [ho] at h1
  cases h1
  have go : ∀ (kvs : List (Key × V)) (vs : List (Key × Value)) (l : List DictEntry), KV kvs vs → Pairs (mixKind P w) l vs → l.length = kvs.length ∧
      ∀ (i : Nat) (p : Key × V) (e : DictEntry), kvs[i]? = some p → l[i]? = some e → keyIs p.1 e.key = true ∧ RelV p.2 e.val := by
    intro kvs
    induction kvs with
    | nil =>
      intro vs l r z
      cases r
      cases z
      exact ⟨rfl, fun i p e h => by simp at h⟩
    | cons q kvs ih =>
      intro vs l r z
      cases r with
      | @cons _ w _ vs' r0 r1 =>
        cases z with
        | @cons e0 _ es' _ hk hv hr =>
          obtain ⟨i1, i2⟩ := ih _ _ r1 hr
          refine ⟨by simp [i1], fun i p e hp he => ?_⟩
          cases i with
          | zero =>
            simp at hp he
            subst hp he
            rw [r0.1]
            exact ⟨hk, by rw [hv]; exact r0.2⟩
          | succ i => exact i2 i p e (by simpa using hp) (by simpa using he)
  obtain ⟨g1, g2⟩ := go kvs vs es.toList kvr h5
  exact ⟨es, ep, h2.1, h3, hsys, by simpa using g1, fun i p e hp he => g2 i p e hp (by simpa using he)⟩
section
variable {X : Cx} {G0 : List Code} {H : Hp} {a : Addr} {kvs : List (Key × V)} {ps : List Str} {S : Addr → Prop} {k : Nat}
theorem own_dct (hno : hitD G0 a = false) (hn : ¬ S a) (ha : H a = some (.dK kvs)) (r : RpEnt X G0 k S (hide a H) kvs ps) {A : Around} {s : Shared} {H1 : Hp} {pins : List (Addr × Obj)} {σ : L2.St} {R : Result → Shared → Prop} {base : Nat} {id : String} {rest : List Value}
    (hcg : (Code.builtin id ⟨.ref a :: rest, []⟩).isGuard = true) (hw : (Code.builtin id ⟨.ref a :: rest, []⟩).weight = 1) (hcu : (A.under (.builtin id ⟨.ref a :: rest, []⟩)).units = A.units + 1)
    (at_ : At X G0 (k + 1) A (fun b => b = a ∨ S b)) (I : Inv X pins σ H1 s) (hs : Same H H1) (hsz : base + (dictText ps).length ≤ sizeLine)
    (hR : ∀ s' H2 u, Inv X pins σ H2 s' → Same H1 H2 → R (.ok (.ret (.str (dictText ps) u))) s') :
    wpOwn (model X.prog X.w) A (.builtin id ⟨.ref a :: rest, []⟩) (Builtin.dictReprAt base ⟨[.ref a], []⟩) (fun fin s' => match fin with | .done f => R (.ok f) s' | .again c' => c'.quiet = true ∧ codeAny (model X.prog X.w) A c' R s') (fun e s' => R (.error e) s') s := by
  obtain ⟨g, hg, hcl⟩ := at_.gd
  have ha1 := hs _ _ ha
  obtain ⟨o, IL⟩ := I.lock ha1 trivial
  obtain ⟨h1, hok⟩ := (show ObjOk X.prog X.w (upd H1 a (.frz o (.dK kvs))) s.heap a (.frz o (.dK kvs)) from IL.hok a _ upd_same)
  obtain ⟨es, n, h2, h3, hsys, hsz1, hent⟩ := dct_ent hok h1
  have hTy : s.TypeIs (.ref a) "dict" := ⟨o, h1, h2⟩
  have hca : Clear g a := hcl a (.inl rfl)
  have hlen : ps.length = es.size := by rw [r.1, hsz1]
  have hp3 := piled_le_dictText ps
  have hsz0 : (dictText ps).length ≤ sizeLine := by omega
  have hsL : Same (hide a H) (upd H1 a (.frz o (.dK kvs))) := fun b u e => by
    obtain ⟨e1, e2⟩ := hide_of e
    rw [upd_ne e1]
    exact hs _ _ e2
  unfold Builtin.dictReprAt
  refine wpOwn_bind (wpOwn_of_wpAny ?_)
  unfold Builtin.Dict.dictSlotNone
  refine wpAny_bind (wpAny_notOrdered_dict hTy ?_)
  show wpAny _ _ (pure (Value.ref a)) _ _ s
  refine wpAny_pure ?_
  rw [dictReprRunning_eq]
  refine wpOwn_bind (wpOwn_stackTailAny hg (dictGuardF_off _) (dictGuardF_pos _) ?_)
  have hnn : ((g ++ G0).any fun c => dictGuardF (.ref a) (c, default)) = false := by
    rw [List.any_append, show (G0.any fun c => dictGuardF (.ref a) (c, default)) = false from hno, Bool.or_false, List.any_eq_false]
    intro c hcm
    rw [dictGuardF_of_clear hca c hcm]
    exact Bool.false_ne_true
  rw [hnn]
  refine wpOwn_of_wpAny ?_
  have a2 := (at_.less (j := k + 1) (U := S) (Nat.le_refl _) fun b hb => .inr hb).loop (rest := rest) hn hcg hw hcu
  show wpAny _ _ (Builtin.Dict.addrOf (.ref a) >>= _) _ _ s
  refine wpAny_bind (wpAny_pure ?_)
  show wpAny _ _ (Builtin.Dict.showsAll a >>= _) _ _ s
  unfold Builtin.Dict.showsAll
  rw [if_neg (by rw [hsys]; exact Bool.false_ne_true)]
  refine wpAny_bind (wpAny_pure ?_)
  refine wpAny_bind (wpAny_dictEpoch h1 h3 ?_)
  refine wpAny_bind (wpAny_dictEntries h1 h3 ?_)
  refine wpAny_bind ?_
  rw [Std.Legacy.Range.forIn_eq_forIn_range']
  simp only [Std.Legacy.Range.size, Nat.sub_zero, Nat.add_sub_cancel, Nat.div_one]
  refine wpAny_forIn_list _
    (fun rest' r s' => ∃ i H2, rest' = List.range' i (es.size - i) ∧ i ≤ es.size ∧ r = (⟨(ps.take i).toArray, base + piled (ps.take i)⟩ : (Array Str × Nat)) ∧ Inv X pins σ H2 s' ∧ Same (upd H1 a (.frz o (.dK kvs))) H2)
    _ ?_ ?_ _ _ ⟨0, _, by simp, Nat.zero_le _, by simp [piled], IL, Same.refl _⟩
  · rintro x rest' _ s' ⟨i, H2, hr, hi, rfl, I2, hs2⟩
    have hlt : i < es.size := by
      rcases Nat.lt_or_ge i es.size with h | h
      · exact h
      · rw [Nat.sub_eq_zero_of_le h] at hr; simp at hr
    obtain ⟨rfl, hrest⟩ : x = i ∧ rest' = List.range' (i + 1) (es.size - (i + 1)) := by
      have e : es.size - i = (es.size - (i + 1)) + 1 := by omega
      rw [e, List.range'_succ] at hr
      injection hr with h1 h2
      exact ⟨h1, h2⟩
    have hlt2 : x < kvs.length := by omega
    obtain ⟨tk, tv, hp, rk, rv⟩ := r.2 x kvs[x] (List.getElem?_eq_getElem hlt2)
    obtain ⟨ek, ev⟩ := hent x kvs[x] es[x] (List.getElem?_eq_getElem hlt2) (Array.getElem?_eq_getElem hlt)
    have hpl : (tk ++ ": " ++ tv).length = tk.length + 2 + tv.length := by
      rw [strLen_append, strLen_append]; rfl
    have hp1 := piled_take_succ hp
    have hp2 := piled_take_le ps (x + 1)
    rw [hpl] at hp1
    obtain ⟨g1, _⟩ := (show ObjOk X.prog X.w H2 s'.heap a (.frz o (.dK kvs)) from I2.hok a _ (hs2 _ _ upd_same))
    refine wpAny_bind (wpAny_dictEntries g1 h3 ?_)
    rw [Array.getElem?_eq_getElem hlt]
    refine wpAny_bind (wpAny_holding (wpAny_bind (rk _ ek (base + piled (ps.take x) + 1) (by omega) _ _ _ _ fun tk1 => ?_)))
    have I2 := I2.tok tk1
    refine wpAny_bind (rv (base + piled (ps.take x) + (tk.length + 3)) _ _ pins σ _ H2 _ _ (by omega) a2 I2 (hsL.trans hs2) ev fun s3 H3 I3 hs3 => wpAny_pure ?_)
    have hs13 := hs2.trans hs3
    obtain ⟨g2, _⟩ := (show ObjOk X.prog X.w H3 s3.heap a (.frz o (.dK kvs)) from I3.hok a _ (hs13 _ _ upd_same))
    refine wpAny_bind (wpAny_dictEpoch g2 h3 ?_)
    rw [if_neg (by simp)]
    have e1 : (ps.take x).toArray.push (tk ++ ": " ++ tv) = (ps.take (x + 1)).toArray := by
      rw [List.take_add_one, hp]
      simp
    have e2 : base + piled (ps.take x) + (tk.length + tv.length + 4) = base + piled (ps.take (x + 1)) := by omega
    refine wpAny_pure ⟨x + 1, H3, hrest, hlt, ?_, I3, hs13⟩
    rw [e1, e2]
  · rintro _ s' ⟨i, H2, hr, hi, rfl, I2, hs2⟩
    have hin : i = es.size := by
      rcases Nat.lt_or_ge i es.size with h | h
      · have e : es.size - i = (es.size - (i + 1)) + 1 := by omega
        rw [e, List.range'_succ] at hr; exact nomatch hr
      · exact Nat.le_antisymm hi h
    rw [hin, ← hlen, List.take_length]
    refine wpAny_bind (wpAny_mkStr (wpAny_pure ?_) (by simpa [dictText] using hsz0))
    have IU := I2.unlock (hs2 _ _ upd_same) (I.nofrz ha1 trivial)
    have hsU : Same H1 (upd H2 a (.dK kvs)) := fun b u e => by
      by_cases hb : b = a
      · subst hb; rw [ha1] at e; cases e; exact upd_same
      · rw [upd_ne hb]; exact hs2 _ _ (by rw [upd_ne hb]; exact e)
    have h1 := hR _ _ s'.toks (IU.tok (s'.toks + 1)) hsU
    simpa [dictText] using h1
theorem RpU.dct (hno : hitD G0 a = false) (hn : ¬ S a) (ha : H a = some (.dK kvs)) (r : RpEnt X G0 k S (hide a H) kvs ps) : RpU X G0 (k + 1) (fun b => b = a ∨ S b) H (.ref a) (dictText ps) := by
  intro base A E pins σ s H1 u Q hb at_ I hs rv hq
  obtain rfl : u = Value.ref a := rv
  obtain ⟨o, h1⟩ : ∃ o, s.heap.get? a = some o := by
    obtain ⟨_, _, _, _, o, _, _, e, _⟩ := (show ObjOk X.prog X.w H1 s.heap a (.dK kvs) from I.hok a _ (hs _ _ ha))
    exact ⟨o, e⟩
  obtain ⟨_, _, h2, _⟩ := dct_ent (show ObjOk X.prog X.w H1 s.heap a (.dK kvs) from I.hok a _ (hs _ _ ha)) h1
  have hT : s.TypeIs (.ref a) "dict" := ⟨o, h1, h2⟩
  refine wpAny_pyReprUnder_ref (by omega) (wpAny_pyReprObjUnder_twin (twin := "dict.__repr__.under") hT F.slot_dict_repr rfl (by have := at_.room.un; omega)
    (call_twin_own (F.quiet_dict_repr_under _) F.entry_dict_repr_under F.check_dict_repr_under hT F.slot_dict_repr (F.args_dict_repr_1 _) ?_))
  exact own_dct hno hn ha r (isGuard_dict_repr_under _) (weight_dctU _) (units_under_dict_repr_under _ _) at_ I hs hb fun s' H2 u I2 hs2 => ⟨⟨_, _, rfl⟩, _, _, rfl, hq s' H2 I2 hs2⟩
theorem RpT.dct (hno : hitD G0 a = false) (hn : ¬ S a) (ha : H a = some (.dK kvs)) (r : RpEnt X G0 k S (hide a H) kvs ps) : RpT X G0 (k + 2) H (.ref a) (dictText ps) := by
  intro A E pins σ s H1 u Q hz hg hf hr I hs rv hq
  obtain rfl : u = Value.ref a := rv
  obtain ⟨o, h1⟩ : ∃ o, s.heap.get? a = some o := by
    obtain ⟨_, _, _, _, o, _, _, e, _⟩ := (show ObjOk X.prog X.w H1 s.heap a (.dK kvs) from I.hok a _ (hs _ _ ha))
    exact ⟨o, e⟩
  obtain ⟨_, _, h2, _⟩ := dct_ent (show ObjOk X.prog X.w H1 s.heap a (.dK kvs) from I.hok a _ (hs _ _ ha)) h1
  have hT : s.TypeIs (.ref a) "dict" := ⟨o, h1, h2⟩
  have at_ : At X G0 (k + 2) A (fun b => b = a ∨ S b) := ⟨hf, hr, [], hg, fun b _ => Clear.nil b⟩
  refine call_repr_slot (by have := hr.un; omega) hT F.slot_dict_repr ?_
  refine wpAny_call (codeAny_call_builtin_own (Code.quiet_builtin _ (by decide +kernel)) F.entry_dict_repr (F.slot_dict_repr.check _ _ _ _ _ _ _ _ hT (F.args_dict_repr_1 _) ?_))
  exact own_dct (base := 0) (rest := []) (R := callEnd (fun v s' => ∃ x t, v = Value.str x t ∧ Q v s') E) hno hn ha r (isGuard_dict_repr _) (weight_dct _) (units_under_dict_repr _ _) at_.in1 I hs (by omega) fun s' H2 u I2 hs2 => ⟨_, _, rfl, hq s' H2 _ I2 hs2⟩
/-! a frame below is at work on it -/
theorem hit_tup {A : Around} {s : Shared} {H1 : Hp} {pins : List (Addr × Obj)} {σ : L2.St} {R : Result → Shared → Prop} {base : Nat} {c : Code} (hit : hitT G0 a = true) (at_ : At X G0 k A S) (I : Inv X pins σ H1 s) (hR : ∀ s' u, Inv X pins σ H1 s' → R (.ok (.ret (.str "(...)" u))) s') :
    wpOwn (model X.prog X.w) A c (Builtin.tupleReprAt base ⟨[.ref a], []⟩) (fun fin s' => match fin with | .done f => R (.ok f) s' | .again c' => c'.quiet = true ∧ codeAny (model X.prog X.w) A c' R s') (fun e s' => R (.error e) s') s := by
  obtain ⟨g, hg, hcl⟩ := at_.gd
  rw [tuple_repr_tree, tupleReprUnderWay_eq]
  refine wpOwn_bind (wpOwn_stackTailAny hg (tupGuardF_off _) (tupGuardF_pos _) ?_)
  rw [List.any_append, show (G0.any fun c => tupGuardF (.ref a) (c, default)) = true from hit, Bool.or_true, if_pos rfl]
  refine wpOwn_of_wpAny (wpAny_bind (wpAny_rule ?_))
  refine wpAny_bind (wpAny_mkStr (wpAny_pure ?_) (by decide +kernel))
  exact hR _ s.toks (I.tok (s.toks + 1))
theorem hit_dct {A : Around} {s : Shared} {H1 : Hp} {pins : List (Addr × Obj)} {σ : L2.St} {R : Result → Shared → Prop} {base : Nat} {c : Code} (hit : hitD G0 a = true) (hTy : s.TypeIs (.ref a) "dict") (at_ : At X G0 k A S) (I : Inv X pins σ H1 s) (hR : ∀ s' u, Inv X pins σ H1 s' → R (.ok (.ret (.str "{...}" u))) s') :
    wpOwn (model X.prog X.w) A c (Builtin.dictReprAt base ⟨[.ref a], []⟩) (fun fin s' => match fin with | .done f => R (.ok f) s' | .again c' => c'.quiet = true ∧ codeAny (model X.prog X.w) A c' R s') (fun e s' => R (.error e) s') s := by
  obtain ⟨g, hg, hcl⟩ := at_.gd
  unfold Builtin.dictReprAt
  refine wpOwn_bind (wpOwn_of_wpAny ?_)
  unfold Builtin.Dict.dictSlotNone
  refine wpAny_bind (wpAny_notOrdered_dict hTy ?_)
  show wpAny _ _ (pure (Value.ref a)) _ _ s
  refine wpAny_pure ?_
  rw [dictReprRunning_eq]
  refine wpOwn_bind (wpOwn_stackTailAny hg (dictGuardF_off _) (dictGuardF_pos _) ?_)
  rw [List.any_append, show (G0.any fun c => dictGuardF (.ref a) (c, default)) = true from hit, Bool.or_true, if_pos rfl]
  refine wpOwn_of_wpAny (wpAny_bind (wpAny_rule ?_))
  refine wpAny_bind (wpAny_mkStr (wpAny_pure ?_) (by decide +kernel))
  exact hR _ s.toks (I.tok (s.toks + 1))
theorem RpU.tupHit {xs : List V} (ha : H a = some (.tup xs)) (hit : hitT G0 a = true) : RpU X G0 0 (fun _ => False) H (.ref a) "(...)" := by
  intro base A E pins σ s H1 u Q hb at_ I hs rv hq
  obtain rfl : u = Value.ref a := rv
  obtain ⟨o, its, n, h1, h2, h3, rv⟩ := tup_at I (hs _ _ ha)
  have hT : s.TypeIs (.ref a) "tuple" := ⟨o, h1, h2⟩
  refine wpAny_pyReprUnder_ref (by omega) (wpAny_pyReprObjUnder_twin (twin := "tuple.__repr__.under") hT F.slot_tuple_repr rfl (by have := at_.room.un; omega)
    (call_twin_own (F.quiet_tuple_repr_under _) F.entry_tuple_repr_under F.check_tuple_repr_under hT F.slot_tuple_repr (F.args_tuple_repr_1 _) ?_))
  exact hit_tup hit at_ I fun s' u I2 => ⟨⟨_, _, rfl⟩, _, _, rfl, hq s' H1 I2 (Same.refl _)⟩
theorem RpT.tupHit {xs : List V} (ha : H a = some (.tup xs)) (hit : hitT G0 a = true) : RpT X G0 1 H (.ref a) "(...)" := by
  intro A E pins σ s H1 u Q hz hg hf hr I hs rv hq
  obtain rfl : u = Value.ref a := rv
  obtain ⟨o, its, n, h1, h2, h3, rv⟩ := tup_at I (hs _ _ ha)
  have hT : s.TypeIs (.ref a) "tuple" := ⟨o, h1, h2⟩
  have at_ : At X G0 1 A (fun _ => False) := ⟨hf, hr, [], hg, fun b z => z.elim⟩
  refine call_repr_slot (by have := hr.un; omega) hT F.slot_tuple_repr ?_
  refine wpAny_call (codeAny_call_builtin_own (Code.quiet_builtin _ (by decide +kernel)) F.entry_tuple_repr (F.slot_tuple_repr.check _ _ _ _ _ _ _ _ hT (F.args_tuple_repr_1 _) ?_))
  exact hit_tup (base := 0) (R := callEnd (fun v s' => ∃ x t, v = Value.str x t ∧ Q v s') E) hit at_.in1 I fun s' u I2 => ⟨_, _, rfl, hq s' H1 _ I2 (Same.refl _)⟩
theorem RpU.dctHit (ha : H a = some (.dK kvs)) (hit : hitD G0 a = true) : RpU X G0 0 (fun _ => False) H (.ref a) "{...}" := by
  intro base A E pins σ s H1 u Q hb at_ I hs rv hq
  obtain rfl : u = Value.ref a := rv
  obtain ⟨o, h1⟩ : ∃ o, s.heap.get? a = some o := by
    obtain ⟨_, _, _, _, o, _, _, e, _⟩ := (show ObjOk X.prog X.w H1 s.heap a (.dK kvs) from I.hok a _ (hs _ _ ha))
    exact ⟨o, e⟩
  obtain ⟨_, _, h2, _⟩ := dct_ent (show ObjOk X.prog X.w H1 s.heap a (.dK kvs) from I.hok a _ (hs _ _ ha)) h1
  have hT : s.TypeIs (.ref a) "dict" := ⟨o, h1, h2⟩
  refine wpAny_pyReprUnder_ref (by omega) (wpAny_pyReprObjUnder_twin (twin := "dict.__repr__.under") hT F.slot_dict_repr rfl (by have := at_.room.un; omega)
    (call_twin_own (F.quiet_dict_repr_under _) F.entry_dict_repr_under F.check_dict_repr_under hT F.slot_dict_repr (F.args_dict_repr_1 _) ?_))
  exact hit_dct hit hT at_ I fun s' u I2 => ⟨⟨_, _, rfl⟩, _, _, rfl, hq s' H1 I2 (Same.refl _)⟩
theorem RpT.dctHit (ha : H a = some (.dK kvs)) (hit : hitD G0 a = true) : RpT X G0 1 H (.ref a) "{...}" := by
  intro A E pins σ s H1 u Q hz hg hf hr I hs rv hq
  obtain rfl : u = Value.ref a := rv
  obtain ⟨o, h1⟩ : ∃ o, s.heap.get? a = some o := by
    obtain ⟨_, _, _, _, o, _, _, e, _⟩ := (show ObjOk X.prog X.w H1 s.heap a (.dK kvs) from I.hok a _ (hs _ _ ha))
    exact ⟨o, e⟩
  obtain ⟨_, _, h2, _⟩ := dct_ent (show ObjOk X.prog X.w H1 s.heap a (.dK kvs) from I.hok a _ (hs _ _ ha)) h1
  have hT : s.TypeIs (.ref a) "dict" := ⟨o, h1, h2⟩
  have at_ : At X G0 1 A (fun _ => False) := ⟨hf, hr, [], hg, fun b z => z.elim⟩
  refine call_repr_slot (by have := hr.un; omega) hT F.slot_dict_repr ?_
  refine wpAny_call (codeAny_call_builtin_own (Code.quiet_builtin _ (by decide +kernel)) F.entry_dict_repr (F.slot_dict_repr.check _ _ _ _ _ _ _ _ hT (F.args_dict_repr_1 _) ?_))
  exact hit_dct (base := 0) (R := callEnd (fun v s' => ∃ x t, v = Value.str x t ∧ Q v s') E) hit hT at_.in1 I fun s' u I2 => ⟨_, _, rfl, hq s' H1 _ I2 (Same.refl _)⟩
end
end K18R

/-! k44: _law_stranger_right. -/
namespace K5
open PySem PySem.Spec PyProof.Rows L2 LamX L2H K1 K18 K18R

section
variable {X : Cx} {CX : CXT} {k : Nat} {f : Addr} {fd : FuncData} {ps ks : List Str} {sp : Sp} {E : XK} {x : Str} {p pos : Pos} {kws : List Keyword} {tk : TA} {g : List Value → List Value → List Value} {gV : List V → List V → List V}
/-- f(k = v, ..) -/
theorem pe_callN0 (F : FnOk X.prog X.w X.K X.mg X.base CX k f fd ps sp) (hr : Room k X.A) (hg : Gl X x) (hm : X.mg x = some (.ref f)) (hk : PySem.W.keepIn X.K (.ref f) = true) (hb : KBn X.K fd ps 0 ks g gV) (hx : Passes CX X E) (hkw : PK X kws tk)
    (hall : (backToKw pos (keywordEach kws X.env)).all (·.1.isSome) = true := by rfl) (hks : (backToKw pos (keywordEach kws X.env)).filterMap (·.1) = ks := by rfl) (hdb : (x == ("__debug__" : Str)) = false := by decide)
    (hpl : ((backTo pos (starEach [] X.env)).any (·.1) || (backToKw pos (keywordEach kws X.env)).any (·.1.isNone)) = false := by rfl) :
    PE X (.Call (.Name x p) [] kws pos) (tCallN 0 ks.length sp gV E tNil tk) := ⟨fun pins s σ H Q I h => by
  refine wpAny_Call_Name_kw (ld_glob I hg hm ?_ hdb)
  refine PySem.W.callWith_KW0 (h₀ := X.base) I.ok.mod.kin hk hall ?_ hpl
  refine thn (hkw.run pos pins s σ H _ I h) fun ws s2 ⟨zs, H2, I2, rz, l1, l2, q2⟩ => ⟨I2.kIn, ?_⟩
  rw [hks]
  exact run_fnN (us := []) (vs := []) F hr hb hx I2 .nil rz l1 l2 q2⟩
end
/-- f, by keywords alone -/
structure HasKw (P : Program) (w : World) (K : PySem.W.Frag) (mg : Str → Option Value) (base : Heap) (CX : CXT) (k : Nat) (x : Str) (ps : List Str) (sp : Sp) : Prop where
  h : ∃ f fd g, mg x = some (.ref f) ∧ PySem.W.keepIn K (.ref f) = true ∧ KBn K fd ps 0 ps g (fun _ zs => zs) ∧ FnOk P w K mg base CX k f fd ps sp
abbrev nStrR : List Str := ["_law_swap", "_law_hands", "_law_row", "_law_name", "_law_place", "_law_low", "_law_high", "_law_least", "_law_greatest", "_law_net"]
theorem scStrR : FnScope nStrR ["_law_swap", "_law_hands", "_law_row", "_law_name", "_law_place"] (defScope sStrRight) := ⟨rfl, rfl, rfl, by decide +kernel, rfl, by decide +kernel, by decide +kernel⟩
/-- a swap of a law's rows, of u units each -/
structure Deal (ns : List Str) (rs : List Row) (k : Nat) (hs : List Hnd) : Prop where
  e : hs = (rs.map (Row.up k)).map (mkH ns)
  k1 : 1 ≤ k
  ok : ∀ r ∈ rs.map (Row.up k), RwOk ns.length r
  sw : SwOk ns hs
  sm : HnSm hs
  l : rs.length ≤ 20
theorem Deal.len {ns : List Str} {rs : List Row} {k : Nat} {hs : List Hnd} (d : Deal ns rs k hs) : hs.length = rs.length := by rw [d.e, List.length_map, List.length_map]
def spStrR (C CH CS : Addr) : Sp := fun vs H Q _ => ∃ (a hw b : Addr) (ns : List Str) (rs : List Row) (k : Nat) (hs : List Hnd) (ks : List Nat) (pl : Nat), vs = [.ref a, .ref hw, .ref b, .str (ns.getD pl ""), .int pl] ∧ SwAt C CH CS H a ns hs ∧ Deal ns rs k hs ∧ RwL H hw rs ∧ SqA H b (kV ks) ∧ ks.Perm (List.range rs.length) ∧ pl < ns.length ∧
  0 ≤ totR rs ks pl ks.length ∧ ∀ H', Same H H' → Q (.bl true) H'
abbrev HasLBegun (P : Program) (w : World) (K : PySem.W.Frag) (mg : Str → Option Value) (base : Heap) : Prop := Has P w K mg base CX0 1 "_law_begun" ["_law_row", "_law_at"] spLBegun
abbrev HasPlaces (P : Program) (w : World) (K : PySem.W.Frag) (mg : Str → Option Value) (base : Heap) : Prop := Has P w K mg base CX0 2 "_law_places" ["_law_hands", "_law_row", "_law_place"] spPlaces
theorem log_k {n : Nat} (h : n < 1000) : (n : Int).natAbs.log2 < 1920 := Nat.lt_of_lt_of_le (PySem.Flt.log2_lt_of (by decide) (show (n : Int).natAbs < 2 ^ 20 by omega)) (by decide)
/-- the text of a tuple of numbers -/
def kT (ks : List Nat) : Str := tupleText (ks.map fun k : Nat => ((toString (k : Int) : String) : Str))
theorem kT_len {ks : List Nat} (l : ks.length ≤ 100) (h : ∀ k ∈ ks, k < 1000) : (kT ks).length ≤ sizeLine := by
  have sz : sizeLine = 16777216 := sizeLine_eq
  have z := tupleText_len_le (ks.map fun k : Nat => ((toString (k : Int) : String) : Str))
  have key : ∀ l : List Nat, (∀ k ∈ l, k < 1000) → ((l.map fun k : Nat => ((toString (k : Int) : String) : Str)).map (·.length)).sum ≤ 2000 * l.length := fun l => by
    induction l with
    | nil => intro _; simp
    | cons a r ih =>
      intro m
      have h2 := ih fun x hx => m x (List.mem_cons_of_mem _ hx)
      have h1 := PyProof.Rows.int_text_len_1921 (log_k (m a List.mem_cons_self))
      rw [List.map_cons, List.map_cons, List.sum_cons, List.length_cons]
      have h3 : ((toString (a : Int) : String) : Str).length ≤ 2000 := by omega
      omega
  have := key ks h
  rw [List.length_map] at z
  unfold kT
  omega
theorem rp_kT {X : Cx} {H : Hp} {a : Addr} {ks : List Nat} (e : H a = some (.tup (kV ks))) (h : ∀ k ∈ ks, k < 1000) : RpT X [] 2 H (.ref a) (kT ks) := by
  refine RpT.tup (k := 0) (S := fun _ => False) rfl (fun z => z) e ⟨by unfold kV; rw [List.length_map, List.length_map], fun i x ex => ?_⟩
  obtain ⟨n, en, rfl⟩ := map_at ex
  refine ⟨_, by rw [List.getElem?_map, en]; rfl, RpU.int (log_k (h n (List.mem_of_getElem? en)))⟩
theorem eqv_tI (a b : List Int) : PyData.eqv (.tuple (a.map PyData.int)) (.tuple (b.map PyData.int)) = decide (a = b) := by
  rw [PyData.eqv]
  exact eqvAll_map (f := PyData.int) (fun a b => by
    simp only [PyData.eqv]
    by_cases h : a = b
    · subst h; simp
    · simp [h]) a b
theorem nI_nil {ks : List Nat} : nI ks = [] ↔ ks = [] := List.map_eq_nil_iff
/-- row == [] or row == () -/
theorem row_empty {K : PySem.W.Frag} {σ : L2.St} {i : Nat} {H : Hp} {b : Addr} {ks : List Nat} {Q : Bool → Hp → Prop} (hσ : σ[i]? = some (some (.ref b))) (sq : SqA H b (kV ks)) (h : ∀ H', Same H H' → Q (decide (ks = [])) H') :
    tOr (tTest (tOp (rEqD K) (tVar i) (tLst tNil))) (tTest (tOp (rEqD K) (tVar i) (tTup tNil))) σ H Q := by
  have sz : sizeLine = 16777216 := sizeLine_eq
  refine ⟨_, hσ, (by show 0 ≤ sizeLine; omega), fun l nl => ?_⟩
  have s1 := upd_new (o := .lst []) nl
  have hl : upd H l (.lst []) l = some (.lst []) := upd_same
  generalize upd H l (.lst []) = H1 at s1 hl ⊢
  rw [kV_eq] at sq
  have two : ∀ (R : Bool → Hp → Prop) (d : PyData), (∀ H', Same H1 H' → Dp K H' (.ref b) d) → SeqAt.shaped d = true → (∀ H', Same H1 H' → R (PyData.eqv d (.tuple [])) H') → tTest (tOp (rEqD K) (tVar i) (tTup tNil)) σ H1 R := fun R d dp sh r => by
    refine ⟨_, hσ, (by show 0 ≤ sizeLine; omega), fun t nt => ?_⟩
    have s2 := upd_new (o := .tup []) nt
    exact ⟨d, .tuple [], dp _ s2, .tup (SqT.of upd_same) .nil, sh, sh_tI [], _, rfl, r _ s2⟩
  rcases sq with sq | sq
  · have e1 : PyData.eqv (.list ((nI ks).map PyData.int)) (.list []) = decide (ks = []) := by
      rw [show PyData.list [] = .list (([] : List Int).map PyData.int) from rfl, eqv_lI]
      exact decide_eq_decide.mpr nI_nil
    refine ⟨.list ((nI ks).map PyData.int), .list [], .lst (SqL.of (s1 _ _ sq)) (dps_I _), .lst (SqL.of hl) .nil, sh_lI _, sh_lI [], _, rfl, ?_⟩
    rw [e1]
    by_cases hk : ks = []
    · rw [decide_eq_true hk]
      refine iteT ?_
      have := h H1 s1
      rwa [decide_eq_true hk] at this
    · rw [decide_eq_false hk]
      refine iteF ?_
      refine two _ _ (fun H' s' => .lst (SqL.of (s' _ _ (s1 _ _ sq))) (dps_I _)) (sh_lI _) fun H' s' => ?_
      have := h H' (s1.trans s')
      rw [decide_eq_false hk] at this
      simpa [PyData.eqv] using this
  · refine ⟨.tuple ((nI ks).map PyData.int), .list [], .tup (SqT.of (s1 _ _ sq)) (dps_I _), .lst (SqL.of hl) .nil, sh_tI _, sh_lI [], false, by simp [PyData.eqv], ?_⟩
    refine iteF ?_
    refine two _ _ (fun H' s' => .tup (SqT.of (s' _ _ (s1 _ _ sq))) (dps_I _)) (sh_tI _) fun H' s' => ?_
    have := h H' (s1.trans s')
    rw [show PyData.tuple [] = .tuple (([] : List Int).map PyData.int) from rfl, eqv_tI, decide_eq_decide.mpr (nI_nil (ks := ks))]
    exact this
section
variable {P : Program} {w : World} {K : PySem.W.Frag} {mg : Str → Option Value} {base : Heap} {f C CH CS CW CB CU CN CL : Addr} {fd : FuncData}
theorem ok_strR (G : Glob mg) (HS : Has P w K mg base (L2.CX P w) 11 "spared" ["swap", "row", "name"] (spAsk K C CH CS CW CB CN CL id)) (HB : HasKw P w K mg base (L2.CX P w) 11 "bound_to" ["swap", "row", "name"] (spAsk K C CH CS CW CB CN CL negs))
    (HP : HasPlaces P w K mg base) (HG : HasLBegun P w K mg base) (HL : HasLAlong P w K mg base) (F : DefAt K "_law_stranger_right" "_law_stranger_right" sStrRight f fd) :
    FnG P w K mg base CX0 12 f fd ["_law_swap", "_law_hands", "_law_row", "_law_name", "_law_place"] (spStrR C CH CS) := by
  obtain ⟨f1, fd1, m1, k1, b1, G1⟩ := HS.h
  obtain ⟨f2, fd2, g2, m2, k2, b2, G2⟩ := HB.h
  obtain ⟨fp, fdp, mP, kP, bP, GP⟩ := HP.h
  obtain ⟨fg, fdg, mG, kG, bG, GG⟩ := HG.h
  obtain ⟨fl, fdl, mL, kL, bL, GL⟩ := HL.h
  refine okG F scStrR (fun vs H Q E ⟨a, hw, b, ns, rs, k, hs, ks, pl, e, _⟩ => by rw [e]; rfl) (fun cdv A outer s H vs Q E gd hr ⟨a, hw, b, ns, rs, k, hs, ks, pl, e, ha, dl, rwl, sq, pm, hpl, n0, q⟩ => ?_)
  subst e
  have gd2 : (A.deeper (envOfC "_law_stranger_right" (defScope sStrRight) s.heap.objs.size f cdv)).guards = some [] := gd
  have hu64 : (A.deeper (envOfC "_law_stranger_right" (defScope sStrRight) s.heap.objs.size f cdv)).units + 64 < cLine := by have := hr.un; omega
  have r2 := hr.mono (show 2 ≤ 11 by decide)
  have r1 := hr.mono (show 1 ≤ 11 by decide)
  have rH : L2H.RoomH 2 (A.deeper (envOfC "_law_stranger_right" (defScope sStrRight) s.heap.objs.size f cdv)) := ⟨r2.dp, r2.un⟩
  refine ⟨_, pss_cons (ps_par (i := 5) (j := 6) (by rfl) scStrR.nd rfl rfl (by decide) rfl rfl (pa_cons (pe_call (E := E0) G1 hr rfl m1 k1 b1 .nil passL (pa_cons (pv 0) (pa_cons (pv 2) (pa_cons (pv 3) pa_nil))))
      (pa_cons (pe_callN0 (E := E0) G2 hr rfl m2 k2 b2 passL (pk_cons (pv 0) (pk_cons (pv 2) (pk_cons (pv 3) pk_nil)))) pa_nil)) (by rfl))
    (pss_cons (ps_if (PW.pt (pw_or (pt_cmpR (op_eqD hu64) (pv 2) (pe_lst pa_nil) (nomark _)) (pw_or1 (pt_cmpR (op_eqD hu64) (pv 2) (pe_tup pa_nil) (nomark _))))) (pss_one (ps_ret (pe_cmpR (op_eqD hu64) (pe_tup (pa_cons (pv 5) (pa_cons (pv 6) pa_nil))) (pe_tup (pa_cons (pe_tup pa_nil) (pa_cons (pe_tup pa_nil) pa_nil))) (nomark _)))) pss_nil)
    (pss_cons (ps_asg (pe_call GP r2 rfl mP kP bP .nil pass0 (pa_cons (pv 1) (pa_cons (pv 2) (pa_cons (pv 4) pa_nil)))) (pg_tup (by rfl) (pgs_cons (pg_name (i := 7) scStrR.nd rfl (Or.inl rfl)) (pgs_cons (pg_name (i := 8) scStrR.nd rfl (Or.inl rfl)) pgs_nil))))
    (pss_cons (ps_if (PW.pt (pw_or (pt_cmpR op_ne (pe_callB (r := rRepr _ []) (call_reprX gd2) (by rfl) G.repr (by decide +kernel) (pa_cons (pv 5) pa_nil)) (pe_callB (r := rRepr _ []) (call_reprX gd2) (by rfl) G.repr (by decide +kernel) (pa_cons (pe_call GG r1 rfl mG kG bG .nil pass0 (pa_cons (pv 2) (pa_cons (pv 7) pa_nil))) pa_nil)) (nomark _))
        (pw_or1 (pt_cmpR op_ne (pe_callB (r := rRepr _ []) (call_reprX gd2) (by rfl) G.repr (by decide +kernel) (pa_cons (pv 6) pa_nil)) (pe_callB (r := rRepr _ []) (call_reprX gd2) (by rfl) G.repr (by decide +kernel) (pa_cons (pe_call GG r1 rfl mG kG bG .nil pass0 (pa_cons (pv 2) (pa_cons (pv 8) pa_nil))) pa_nil)) (nomark _))))) (pss_one (ps_ret pe_bl)) pss_nil)
    (pss_cons (ps_set (i := 9) scStrR.nd rfl (Or.inl rfl) (pe_ix (r := rIxL K) ix_list (pe_call GL r1 rfl mL kL bL .nil pass0 (pa_cons (pv 1) (pa_cons (pv 2) (pa_cons (pv 4) pa_nil)))) (pe_un un_neg pe_int) (fun _ _ => rfl)))
    (pss_one (ps_ret (pe_and (pe_cmpR op_ge (pe_callB (cr_min rfl) (by rfl) G.min (by decide +kernel) (pa_cons (pe_call GL r1 rfl mL kL bL .nil pass0 (pa_cons (pv 1) (pa_cons (pv 5) (pa_cons (pv 4) pa_nil)))) pa_nil)) pe_int (nomark _))
      (pe_one (pe_cmpR op_le (pe_callB (cr_max rfl) (by rfl) G.max (by decide +kernel) (pa_cons (pe_call GL r1 rfl mL kL bL .nil pass0 (pa_cons (pv 1) (pa_cons (pv 6) (pa_cons (pv 4) pa_nil)))) pa_nil)) (pv 9) (nomark _)))))))))), ?_⟩
  have sz : sizeLine = 16777216 := sizeLine_eq
  have lh := dl.len
  have l20 := dl.l
  have lk := pm.length_eq
  rw [List.length_range] at lk
  have ltk : ∀ x ∈ ks, x < rs.length := fun x hx => List.mem_range.mp (pm.mem_iff.mp hx)
  have nm := getD_in hpl
  have enet : net hs (ns.getD pl "") = (k : Int) * totR rs ks pl ks.length := by rw [dl.e]; exact net_tot dl.sw.nd dl.ok hpl pm
  have net0 : 0 ≤ net hs (ns.getD pl "") := by rw [enet]; exact Int.mul_nonneg (by omega) n0
  have eabs : absZ hs ks (ns.getD pl "") = (apR rs ks pl).map (((6 * k : Nat) : Int) * ·) := by rw [dl.e]; exact abs_ap dl.sw.nd dl.ok hpl pm
  have c0 : (0 : Int) < ((6 * k : Nat) : Int) := by have := dl.k1; omega
  have good : ∀ {H' : Hp} {g : Addr → List Str → List Hnd → List Nat → Str → Prop}, Same H H' → g a ns hs ks (ns.getD pl "") → AskW K C CH CS CW CB CN CL (.ref a) (.ref b) (.str (ns.getD pl "")) H' E0 g := fun {H' g} s' hg =>
    .inr ⟨a, ns, hs, rfl, ha.same s', dl.sw, dl.sm, by omega, .inr ⟨b, ks, rfl, sq.same s', by rw [lh]; exact pm, .inl ⟨_, rfl, dl.sw.nm _ nm, nm, .inr ⟨net0, hg⟩⟩⟩⟩
  refine ⟨_, rfl, _, rfl, _, rfl, _, _, _, rfl, good (Same.refl H) fun t1 i H1 s1 hi ht1 => ?_⟩
  refine ⟨_, rfl, _, rfl, _, rfl, rfl, rfl, _, _, _, rfl, good s1 fun t2 j H2 s2 hj ht2 => ⟨_, _, rfl, ?_⟩⟩
  have s12 := s1.trans s2
  have ht1' := s2 _ _ ht1
  dsimp only
  refine row_empty (i := 2) rfl (sq.same s12) fun H3 s3 => ?_
  have s13 := s12.trans s3
  by_cases hk : ks = []
  · rw [decide_eq_true hk]
    subst hk
    refine iteT ?_
    have e1 := s3 _ _ ht1'
    have e2 := s3 _ _ ht2
    have nil : ∀ m, kV (begun [] m) = [] := fun m => by simp [begun, kV]
    rw [nil] at e1 e2
    refine ⟨_, rfl, _, rfl, (by show 2 ≤ sizeLine; omega), fun p np => ⟨(by show 0 ≤ sizeLine; omega), fun u nu => ⟨(by show 0 ≤ sizeLine; omega), fun v nv => ⟨(by show 2 ≤ sizeLine; omega), fun p2 np2 => ?_⟩⟩⟩⟩
    have w1 := upd_new (o := .tup [V.ref t1, .ref t2]) np
    have h1 : upd H3 p (.tup [V.ref t1, .ref t2]) p = some (.tup [V.ref t1, .ref t2]) := upd_same
    generalize upd H3 p (.tup [V.ref t1, .ref t2]) = K1 at w1 h1 nu nv np2 ⊢
    have w2 := upd_new (o := .tup []) nu
    have h2 : upd K1 u (.tup []) u = some (.tup []) := upd_same
    generalize upd K1 u (.tup []) = K2 at w2 h2 nv np2 ⊢
    have w3 := upd_new (o := .tup []) nv
    have h3 : upd K2 v (.tup []) v = some (.tup []) := upd_same
    generalize upd K2 v (.tup []) = K3 at w3 h3 np2 ⊢
    have w4 := upd_new (o := .tup [V.ref u, .ref v]) np2
    have h4 : upd K3 p2 (.tup [V.ref u, .ref v]) p2 = some (.tup [V.ref u, .ref v]) := upd_same
    generalize upd K3 p2 (.tup [V.ref u, .ref v]) = K4 at w4 h4 ⊢
    have w24 := (w2.trans w3).trans w4
    have w14 := w1.trans w24
    refine ⟨.tuple [.tuple [], .tuple []], .tuple [.tuple [], .tuple []], .tup (SqT.of (w24 _ _ h1)) (.cons (.tup (SqT.of (w14 _ _ e1)) .nil) (.cons (.tup (SqT.of (w14 _ _ e2)) .nil) .nil)), .tup (SqT.of h4) (.cons (.tup (SqT.of (w4 _ _ (w3 _ _ h2))) .nil) (.cons (.tup (SqT.of (w4 _ _ h3)) .nil) .nil)), by decide +kernel, by decide +kernel, ?_⟩
    rw [show PyData.eqv (.tuple [.tuple [], .tuple []]) (.tuple [.tuple [], .tuple []]) = true by simp [PyData.eqv, PyData.eqvAll]]
    exact q _ (s13.trans w14)
  rw [decide_eq_false hk]
  refine iteF ?_
  have k0 : 0 < ks.length := List.length_pos_iff.mpr hk
  refine ⟨_, rfl, _, rfl, _, rfl, hw, b, rs, ks, pl, rfl, rwl.same s13, sq.same s13, ltk, hk, by omega, fun t3 i' j' H4 s4 li lj ht3 => ?_⟩
  obtain rfl : i = i' := by
    rcases hi with ⟨z, _⟩ | hi
    · exact absurd z hk
    · rw [eabs] at hi
      exact least_uniq (least_up c0 hi) li
  obtain rfl : j = j' := by
    rcases hj with ⟨z, _⟩ | hj
    · exact absurd z hk
    · rw [eabs] at hj
      exact most_uniq (most_up c0 hj) lj
  have lli : i < ks.length := by
    obtain ⟨z, e, _⟩ := li
    exact (ap_of e).1
  have llj : j < ks.length := by
    obtain ⟨z, e, _⟩ := lj
    exact (ap_of e).1
  refine ⟨t3, _, rfl, SqT.of ht3, rfl, _, _, rfl, _, _, rfl, rfl, ?_⟩
  have s14 := s13.trans s4
  have s24 := s3.trans s4
  have lb : ∀ m, ∀ x ∈ begun ks m, x < rs.length := fun m x hx => ltk x ((begun_perm ks m).mem_iff.mp hx)
  have lb2 : ∀ m, ∀ x ∈ begun ks m, x < 1000 := fun m x hx => by have := lb m x hx; omega
  have len : ∀ m, (kT (begun ks m)).length ≤ sizeLine := fun m => kT_len (by rw [begun_len]; omega) (lb2 m)
  refine ⟨_, rfl, .ref t1, 2, kT (begun ks i), rfl, rp_kT (s24 _ _ ht1') (lb2 i), rH, len i, fun H5 s5 => ?_⟩
  refine ⟨_, rfl, _, rfl, b, ks, i, rfl, sq.same (s14.trans s5), Nat.le_of_lt lli, by omega, fun t6 H6 s6 ht6 => ?_⟩
  refine ⟨.ref t6, 2, kT (begun ks i), rfl, rp_kT ht6 (lb2 i), rH, len i, fun H7 s7 => ⟨rfl, false, ?_, iteF ?_⟩⟩
  · exact congrArg V.bl (by rw [decide_eq_true rfl]; rfl)
  have s47 := (s5.trans s6).trans s7
  refine ⟨_, rfl, .ref t2, 2, kT (begun ks j), rfl, rp_kT ((s24.trans s47) _ _ ht2) (lb2 j), rH, len j, fun H8 s8 => ?_⟩
  refine ⟨_, rfl, _, rfl, b, ks, j, rfl, sq.same ((s14.trans s47).trans s8), Nat.le_of_lt llj, by omega, fun t9 H9 s9 ht9 => ?_⟩
  refine ⟨.ref t9, 2, kT (begun ks j), rfl, rp_kT ht9 (lb2 j), rH, len j, fun H10 s10 => ⟨rfl, false, ?_, iteF ?_⟩⟩
  · exact congrArg V.bl (by rw [decide_eq_true rfl]; rfl)
  have s410 := s47.trans ((s8.trans s9).trans s10)
  have sA := s14.trans s410
  have sB := s24.trans s410
  have htA := sB _ _ ht1'
  have htB := sB _ _ ht2
  have lt_ : ∀ l : List Nat, (totsR rs l pl).length = l.length + 1 := fun l => by unfold totsR; rw [List.length_map, List.length_range]
  refine ⟨_, rfl, _, rfl, _, rfl, hw, b, rs, ks, pl, rfl, rwl.same sA, sq.same sA, ltk, by omega, fun d1 K1 w1 nd1 hd1 => ?_⟩
  have last : atI ((totsR rs ks pl).map V.int) (-1) = some (.int (totR rs ks pl ks.length)) := by
    have lm : ((totsR rs ks pl).map V.int).length = ks.length + 1 := by rw [List.length_map, lt_]
    unfold atI ixN
    rw [lm, if_neg (by decide), if_pos (by omega)]
    show ((totsR rs ks pl).map V.int)[(-1 + ((ks.length + 1 : Nat) : Int)).toNat]? = _
    rw [show (-1 + ((ks.length + 1 : Nat) : Int)).toNat = ks.length by omega, List.getElem?_map]
    unfold totsR
    rw [List.getElem?_map, List.getElem?_range (by omega)]
    rfl
  refine ⟨1, rfl, d1, _, _, _, rfl, rfl, SqL.of hd1, last, ?_⟩
  refine ⟨_, rfl, _, rfl, _, rfl, hw, t1, rs, begun ks i, pl, rfl, (rwl.same sA).same w1, .inr (w1 _ _ htA), lb i, by rw [begun_len]; omega, fun d2 K2 w2 nd2 hd2 => ?_⟩
  refine ⟨d2, _, rfl, SqL.of hd2, by rw [lt_]; omega, fun mn mem le => ⟨_, _, rfl, rfl, true, ?_, iteT ?_⟩⟩
  · obtain ⟨x, hx, rfl⟩ := List.mem_map.mp mem
    have hx := List.mem_range.mp hx
    rw [begun_len] at hx
    exact congrArg V.bl (decide_eq_true (least_ok li n0 x (by omega)))
  have w12 := w1.trans w2
  refine ⟨_, rfl, _, rfl, _, rfl, hw, t2, rs, begun ks j, pl, rfl, (rwl.same sA).same w12, .inr (w12 _ _ htB), lb j, by rw [begun_len]; omega, fun d3 K3 w3 nd3 hd3 => ?_⟩
  refine ⟨d3, _, rfl, SqL.of hd3, by rw [lt_]; omega, fun mx memx lex => ⟨_, rfl, _, _, rfl, rfl, ?_⟩⟩
  obtain ⟨x, hx, rfl⟩ := List.mem_map.mp memx
  have hx := List.mem_range.mp hx
  rw [begun_len] at hx
  dsimp only
  rw [decide_eq_true (most_ok lj n0 x (by omega))]
  exact q _ ((s12.trans sB).trans (w12.trans w3))
end
end K5

/-! k44: pairs of strangers: what the one has, the other lacks. -/
namespace K5
open PySem PySem.Spec PyProof.Rows L2 LamX K1 K18

def flatR (r : Row) : Row := ⟨r.g % 2, 1 - r.g % 2, r.c, r.c⟩
def owes (r : Row) : Int := if r.g = 0 then r.c else -r.c
def restR (rs : List Row) : Int := ((rs.map flatR).map owes).sum
def lastR (x : Int) : Row := if 0 ≤ x then ⟨1, 0, x, x⟩ else ⟨0, 1, -x, -x⟩
def pairRs (rs : List Row) : List Row := rs.map flatR ++ [lastR (restR rs)]
/-- between the two, even -/
structure Two (r : Row) : Prop where
  gt : (r.g = 0 ∧ r.t = 1) ∨ (r.g = 1 ∧ r.t = 0)
  e : r.c = r.d
theorem two_flat (r : Row) : Two (flatR r) := ⟨by unfold flatR; simp only; omega, rfl⟩
theorem two_last (x : Int) : Two (lastR x) := by
  unfold lastR
  split
  · exact ⟨.inr ⟨rfl, rfl⟩, rfl⟩
  · exact ⟨.inl ⟨rfl, rfl⟩, rfl⟩
theorem two_all (rs : List Row) : ∀ r ∈ pairRs rs, Two r := fun r hr => by
  rcases List.mem_append.mp hr with h | h
  · obtain ⟨x, _, rfl⟩ := List.mem_map.mp h
    exact two_flat x
  · rw [List.mem_singleton.mp h]
    exact two_last _
theorem two_eff {r : Row} (h : Two r) : effR 1 r = -effR 0 r := by
  unfold effR
  rcases h.gt with ⟨a, b⟩ | ⟨a, b⟩ <;> simp [a, b, h.e]
theorem two_owes {r : Row} (h : Two r) : effR 0 r = -owes r := by
  unfold effR owes
  rcases h.gt with ⟨a, b⟩ | ⟨a, b⟩ <;> simp [a, b, h.e]
theorem two_sum {rs : List Row} (h : ∀ r ∈ rs, Two r) (l : List Nat) : sumR rs 1 l = -sumR rs 0 l := by
  unfold sumR
  have key : ∀ l : List Row, (∀ r ∈ l, Two r) → (l.map (effR 1)).sum = -(l.map (effR 0)).sum := fun l => by
    induction l with
    | nil => intro _; rfl
    | cons a r ih =>
      intro m
      rw [List.map_cons, List.map_cons, List.sum_cons, List.sum_cons, two_eff (m a List.mem_cons_self), ih fun x hx => m x (List.mem_cons_of_mem _ hx)]
      omega
  refine key _ fun r hr => ?_
  obtain ⟨k, _, e⟩ := List.mem_filterMap.mp hr
  exact h r (List.mem_of_getElem? e)
theorem two_tot {rs : List Row} (h : ∀ r ∈ rs, Two r) (ks : List Nat) (t : Nat) : totR rs ks 1 t = -totR rs ks 0 t := two_sum h _
theorem two_ap {rs : List Row} (h : ∀ r ∈ rs, Two r) (ks : List Nat) : apR rs ks 1 = negs (apR rs ks 0) := by
  unfold apR negs
  refine Eq.trans (List.map_congr_left (g := fun t : Nat => -((ks.length : Int) * totR rs ks 0 t - (t : Int) * totR rs ks 0 ks.length)) fun t _ => ?_) (List.map_map ..).symm
  rw [two_tot h, two_tot h, Int.mul_neg, Int.mul_neg]
  omega
theorem most_neg {zs : List Int} {i : Nat} (h : MostAt (negs zs) i) : LeastAt zs i := by
  obtain ⟨z, e, le, fi⟩ := h
  obtain ⟨y, ey, rfl⟩ := at_of e
  refine ⟨y, ey, fun x hx => ?_, fun m x hm ex => ?_⟩
  · have := le (-x) (List.mem_map.mpr ⟨x, hx, rfl⟩); omega
  · have := fi m (-x) hm (by rw [negs, List.getElem?_map, ex]; rfl); omega
theorem least_neg {zs : List Int} {i : Nat} (h : LeastAt (negs zs) i) : MostAt zs i := by
  obtain ⟨z, e, le, fi⟩ := h
  obtain ⟨y, ey, rfl⟩ := at_of e
  refine ⟨y, ey, fun x hx => ?_, fun m x hm ex => ?_⟩
  · have := le (-x) (List.mem_map.mpr ⟨x, hx, rfl⟩); omega
  · have := fi m (-x) hm (by rw [negs, List.getElem?_map, ex]; rfl); omega
/-- no one is left with anything -/
theorem pair_net0 (rs : List Row) : ((pairRs rs).map (effR 0)).sum = 0 := by
  unfold pairRs
  rw [List.map_append, List.sum_append]
  have key : ∀ l : List Row, (∀ r ∈ l, Two r) → (l.map (effR 0)).sum = -(l.map owes).sum := fun l => by
    induction l with
    | nil => intro _; rfl
    | cons a r ih =>
      intro m
      rw [List.map_cons, List.map_cons, List.sum_cons, List.sum_cons, two_owes (m a List.mem_cons_self), ih fun x hx => m x (List.mem_cons_of_mem _ hx)]
      omega
  rw [key _ fun r hr => by
    obtain ⟨x, _, rfl⟩ := List.mem_map.mp hr
    exact two_flat x]
  show -restR rs + ([lastR (restR rs)].map (effR 0)).sum = 0
  generalize restR rs = x
  simp only [List.map_cons, List.map_nil, List.sum_cons, List.sum_nil]
  rw [two_owes (two_last x)]
  unfold lastR owes
  split <;> simp <;> omega
theorem pair_net {rs : List Row} {ks : List Nat} (pm : ks.Perm (List.range (pairRs rs).length)) {pl : Nat} (h : pl < 2) : totR (pairRs rs) ks pl ks.length = 0 := by
  match pl, h with
  | 0, _ => rw [tot_all pm, pair_net0]
  | 1, _ => rw [two_tot (two_all rs), tot_all pm, pair_net0]; rfl
/-- the rows of a law, in hand-overs -/
theorem deal_of {ns : List Str} {rs : List Row} {k : Nat} (n2 : 2 ≤ ns.length) (n6 : ns.length ≤ 6) (nd : ns.Nodup) (nm : ∀ n ∈ ns, Nm n) (k1 : 1 ≤ k) (k6 : k ≤ 6) (ok : ∀ r ∈ rs, RwOk ns.length r ∧ r.c < 1000 ∧ r.d < 1000) (l : rs.length ≤ 10) :
    Deal ns rs k ((rs.map (Row.up k)).map (mkH ns)) := by
  have up : ∀ r ∈ rs.map (Row.up k), RwOk ns.length r := fun r hr => by
    obtain ⟨x, hx, rfl⟩ := List.mem_map.mp hr
    obtain ⟨o, c, d⟩ := ok x hx
    have := o.c0; have := o.d0
    exact up_ok o k6 (by omega) (by omega)
  refine ⟨rfl, k1, up, sw_ok n2 n6 nd nm up, fun h hh n => ?_, by omega⟩
  obtain ⟨r, hr, rfl⟩ := List.mem_map.mp hh
  obtain ⟨x, hx, rfl⟩ := List.mem_map.mp hr
  obtain ⟨o, c, d⟩ := ok x hx
  have c0 := o.c0; have d0 := o.d0
  have m1 : (k : Int) * x.c ≤ 6 * 1000 := Int.mul_le_mul (by omega) (by omega) c0 (by decide)
  have m2 : (k : Int) * x.d ≤ 6 * 1000 := Int.mul_le_mul (by omega) (by omega) d0 (by decide)
  have z1 : 0 ≤ (k : Int) * x.c := Int.mul_nonneg (by omega) c0
  have z2 : 0 ≤ (k : Int) * x.d := Int.mul_nonneg (by omega) d0
  unfold Hnd.eff mkH Row.up
  simp only
  split
  · omega
  · split <;> omega
theorem rest_bd {rs : List Row} {m : Nat} (ok : ∀ r ∈ rs, RwOk m r ∧ r.c < 10) (l : rs.length ≤ 6) : (restR rs).natAbs ≤ 60 := by
  unfold restR
  rw [List.map_map]
  refine Nat.le_trans (sum_bd (B := 10) _ _ fun r hr => ?_) (Nat.le_trans (Nat.mul_le_mul_right _ l) (by decide))
  obtain ⟨o, c⟩ := ok r hr
  have := o.c0
  simp only [Function.comp]
  unfold owes flatR
  simp only
  split <;> omega
theorem pair_ok {rs : List Row} {m : Nat} (ok : ∀ r ∈ rs, RwOk m r ∧ r.c < 10) (l : rs.length ≤ 6) : ∀ r ∈ pairRs rs, RwOk 2 r ∧ r.c < 1000 ∧ r.d < 1000 := fun r hr => by
  have rb := rest_bd ok l
  rcases List.mem_append.mp hr with h | h
  · obtain ⟨x, hx, rfl⟩ := List.mem_map.mp h
    obtain ⟨o, c⟩ := ok x hx
    have := o.c0
    unfold flatR
    exact ⟨⟨by simp only; omega, by simp only; omega, by simp only; omega, this, this, by simp only; omega, by simp only; omega⟩, by simp only; omega, by simp only; omega⟩
  · rw [List.mem_singleton.mp h]
    unfold lastR
    split
    · exact ⟨⟨by simp, by simp, by simp, by simp only; omega, by simp only; omega, by simp only; omega, by simp only; omega⟩, by simp only; omega, by simp only; omega⟩
    · exact ⟨⟨by simp, by simp, by simp, by simp only; omega, by simp only; omega, by simp only; omega, by simp only; omega⟩, by simp only; omega, by simp only; omega⟩
end K5

/-! k44: _law_bad_row. -/
namespace K5
open PySem PySem.Spec PyProof.Rows L2 LamX K1 K18 HT

abbrev nBadRow : List Str := ["_law_vane_here", "_law_many", "_law_row", "_law_some_here", "_law_at"]
theorem scBadRow : FnScope nBadRow ["_law_vane_here", "_law_many"] (defScope sBadRow) := ⟨rfl, rfl, rfl, by decide +kernel, rfl, by decide +kernel, by decide +kernel⟩
theorem seq_st {S Cc : TS} {D : Ends} {σ : L2.St} {H : Hp} (R : L2.St → Hp → Prop) (h1 : ∀ N : L2.St → Hp → Prop, (∀ σ' H', R σ' H' → N σ' H') → S { D with nx := N } σ H) (h2 : ∀ σ' H', R σ' H' → Cc D σ' H') : tSeq S Cc D σ H := h1 _ h2
/-! ### lists made anew, values that are no row -/
def BadS (K : PySem.W.Frag) (H : Hp) (m : Nat) (v : V) : Prop := (NotSeq K H v ∨ ∃ a xs bs, v = .ref a ∧ SqA H a xs ∧ xs.length ≤ 1000 ∧ (∀ H', IBs K H' xs bs) ∧ bs.all id = false) ∨ ∃ (b : Addr) (js : List Int), v = .ref b ∧ SqA H b (js.map V.int) ∧ js.length ≤ 1000 ∧ ¬ js.Perm (nI (List.range m))
theorem BadS.bad {K : PySem.W.Frag} {H : Hp} {m : Nat} {v : V} (h : BadS K H m v) : BadRowV K H m v := h.imp (fun z => z.imp id fun ⟨a, xs, bs, e, sq, l, ib, al⟩ => ⟨a, xs, bs, e, sq, l, ib H, al⟩) id
theorem BadS.kn {K : PySem.W.Frag} {H H' : Hp} {p : Addr} {m : Nat} {v : V} (np : v ≠ .ref p) (k : KeepN p H H') (h : BadS K H m v) : BadS K H' m v :=
  h.imp (fun z => z.imp (fun ⟨t, ty, q⟩ => ⟨t, TyOf.kn np k ty, q⟩) fun ⟨a, xs, bs, e, sq, l, ib, al⟩ => ⟨a, xs, bs, e, SqA.kn (fun w => np (by rw [e, w])) k sq, l, ib, al⟩) fun ⟨b, js, e, sq, l, n⟩ => ⟨b, js, e, SqA.kn (fun w => np (by rw [e, w])) k sq, l, n⟩
theorem BadS.same {K : PySem.W.Frag} {H H' : Hp} {m : Nat} {v : V} (s : Same H H') (h : BadS K H m v) : BadS K H' m v :=
  h.imp (fun z => z.imp (fun ⟨t, ty, q⟩ => ⟨t, TyOf.keep s ty, q⟩) fun ⟨a, xs, bs, e, sq, l, ib, al⟩ => ⟨a, xs, bs, e, sq.same s, l, ib, al⟩) fun ⟨b, js, e, sq, l, n⟩ => ⟨b, js, e, sq.same s, l, n⟩
def LP (H0 : Hp) (σ : L2.St) (te : TE) (xs : List V) : Prop := ∀ (H : Hp) (Q : VK), Same H0 H → (∀ (l : Addr) (H' : Hp), Same H H' → H l = none → H' l = some (.lst xs) → Q (.ref l) H') → te σ H Q
def GB (K : PySem.W.Frag) (m : Nat) (p : Addr) (H0 : Hp) (σ : L2.St) (te : TE) : Prop := ∀ (H : Hp) (Q : VK), Same H0 H → (∀ (v : V) (H' : Hp), Same H H' → BadS K H' m v → v ≠ .ref p → Q v H') → te σ H Q
def GBs (K : PySem.W.Frag) (m : Nat) (p : Addr) (H0 : Hp) (σ : L2.St) (ta : TA) (n : Nat) : Prop := ∀ (H : Hp) (Q : List V → Hp → Prop), Same H0 H → (∀ (vs : List V) (H' : Hp), Same H H' → vs.length = n → (∀ v ∈ vs, BadS K H' m v ∧ v ≠ .ref p) → Q vs H') → ta σ H Q
section
variable {K : PySem.W.Frag} {m : Nat} {p : Addr} {H0 : Hp} {σ : L2.St} {te te2 tx : TE} {ta : TA} {xs ys : List V} {x : V} {i : Nat} {r : Addr}
theorem none_s {H H1 : Hp} {l : Addr} (s : Same H H1) (n : H1 l = none) : H l = none := s.free n
theorem lp_one (h : ∀ (H : Hp) (Q : VK), Q x H → tx σ H Q) : LP H0 σ (tLst (tCons tx tNil)) [x] := fun H Q s k => h _ _ ⟨(by show 1 ≤ sizeLine; rw [sizeLine_eq]; omega), fun l nl => k l _ (upd_new nl) nl upd_same⟩
theorem lp_var (hσ : σ[i]? = some (some (.ref r))) (hr : H0 r = some (.lst xs)) (A : LP H0 σ te ys) (l : xs.length + ys.length ≤ 1000) : LP H0 σ (tOp rCat (tVar i) te) (xs ++ ys) := fun H Q s k =>
  ⟨_, hσ, A H _ s fun b H1 s1 nb hb => ⟨r, b, xs, ys, rfl, rfl, s1 _ _ (s _ _ hr), hb, (by rw [sizeLine_eq]; omega), fun q nq => k q _ (s1.trans (upd_new nq)) (s1.free nq) upd_same⟩⟩
theorem lp_cat (A : LP H0 σ te xs) (B : LP H0 σ te2 ys) (l : xs.length + ys.length ≤ 1000) : LP H0 σ (tOp rCat te te2) (xs ++ ys) := fun H Q s k =>
  A H _ s fun a H1 s1 na ha => B H1 _ (s.trans s1) fun b H2 s2 nb hb => ⟨a, b, xs, ys, rfl, rfl, s2 _ _ ha, hb, (by rw [sizeLine_eq]; omega), fun q nq => k q _ ((s1.trans s2).trans (upd_new nq)) ((s1.trans s2).free nq) upd_same⟩
theorem lp_sl {lo hi : Option Int} {tl th : TO} (hσ : σ[i]? = some (some (.ref r))) (hr : H0 r = some (.lst xs)) (hl : ∀ (H : Hp) (R : Option Int → Hp → Prop), R lo H → tl σ H R) (hu : ∀ (H : Hp) (R : Option Int → Hp → Prop), R hi H → th σ H R) : LP H0 σ (tSl (rSlL K) (tVar i) tl th) (cutV xs lo hi) := fun H Q s k =>
  ⟨_, hσ, hl _ _ (hu _ _ ⟨r, xs, rfl, SqL.of (s _ _ hr), fun q nq => k q _ (upd_new nq) nq upd_same⟩)⟩
theorem gb_c (h : ∀ H, NotSeq K H x) (n : x ≠ .ref p) : GB K m p H0 σ (tC x) := fun H Q s k => k x H (Same.refl H) (.inl (.inl (h H))) n
theorem gb_ints {o : HO} {js : List Int} (hp : H0 p = some o) (A : LP H0 σ te (js.map V.int)) (l : js.length ≤ 1000) (np : ¬ js.Perm (nI (List.range m))) : GB K m p H0 σ te := fun H Q s k =>
  A H _ s fun b H1 s1 nb hb => k _ H1 s1 (.inr ⟨b, js, rfl, .inl hb, l, np⟩) fun e => by
    have z := s _ _ hp
    rw [V.ref.inj e, z] at nb
    cases nb
theorem gb_odd {o : HO} {bs : List Bool} (hp : H0 p = some o) (A : LP H0 σ te xs) (l : xs.length ≤ 1000) (ib : ∀ H, IBs K H xs bs) (al : bs.all id = false) : GB K m p H0 σ te := fun H Q s k =>
  A H _ s fun b H1 s1 nb hb => k _ H1 s1 (.inl (.inr ⟨b, xs, bs, rfl, .inl hb, l, ib, al⟩)) fun e => by
    have z := s _ _ hp
    rw [V.ref.inj e, z] at nb
    cases nb
theorem gbs_nil : GBs K m p H0 σ tNil 0 := fun H Q s k => k [] H (Same.refl H) rfl fun v hv => nomatch hv
theorem gbs_cons {n : Nat} (A : GB K m p H0 σ te) (B : GBs K m p H0 σ ta n) : GBs K m p H0 σ (tCons te ta) (n + 1) := fun H Q s k =>
  A H _ s fun v H1 s1 bv nv => B H1 _ (s.trans s1) fun vs H2 s2 l al => k (v :: vs) H2 (s1.trans s2) (by rw [List.length_cons, l]) fun w hw => by
    rcases List.mem_cons.mp hw with rfl | hw
    · exact ⟨bv.same s2, nv⟩
    · exact al w hw
/-- a list of such -/
def BadL (K : PySem.W.Frag) (m : Nat) (p : Addr) (n : Nat) (H : Hp) (l : Addr) : Prop := l ≠ p ∧ ∃ vs, H l = some (.lst vs) ∧ vs.length = n ∧ ∀ v ∈ vs, BadS K H m v ∧ v ≠ .ref p
theorem BadL.same {n : Nat} {H H' : Hp} {l : Addr} (s : Same H H') (h : BadL K m p n H l) : BadL K m p n H' l := let ⟨a, vs, b, c, d⟩ := h; ⟨a, vs, s _ _ b, c, fun v hv => ⟨(d v hv).1.same s, (d v hv).2⟩⟩
theorem new_ne {H : Hp} {b : Addr} {o : HO} (hp : H p = some o) (n : H b = none) : b ≠ p := fun e => by
  rw [e, hp] at n
  cases n
theorem badL_lst {n : Nat} {o : HO} (hp : H0 p = some o) (A : GBs K m p H0 σ ta n) (l : n ≤ 100) {H : Hp} {Q : VK} (s : Same H0 H) (k : ∀ (b : Addr) (H' : Hp), Same H H' → H b = none → BadL K m p n H' b → Q (.ref b) H') : tLst ta σ H Q :=
  A H _ s fun vs H1 s1 lv al => ⟨(by rw [sizeLine_eq]; omega), fun b nb => k b _ (s1.trans (upd_new nb)) (s1.free nb) ⟨new_ne (s1 _ _ (s _ _ hp)) nb, vs, upd_same, lv, fun v hv => ⟨(al v hv).1.same (upd_new nb), (al v hv).2⟩⟩⟩
theorem badL_cat {n j : Nat} {o : HO} (hp : H0 p = some o) (hσ : σ[i]? = some (some (.ref r))) (hr : BadL K m p j H0 r) (A : GBs K m p H0 σ ta n) (l : n + j ≤ 100) {Q : VK} (k : ∀ (b : Addr) (H' : Hp), Same H0 H' → BadL K m p (j + n) H' b → Q (.ref b) H') : tOp rCat (tVar i) (tLst ta) σ H0 Q := by
  refine ⟨_, hσ, badL_lst hp A (by omega) (Same.refl H0) fun b H1 s1 nb ⟨_, ws, hb, lw, aw⟩ => ?_⟩
  obtain ⟨_, vs, hv, lv, av⟩ := hr.same s1
  refine ⟨r, b, vs, ws, rfl, rfl, hv, hb, (by rw [sizeLine_eq]; omega), fun q nq => k q _ (s1.trans (upd_new nq)) ⟨fun e => ?_, _, upd_same, by rw [List.length_append, lv, lw], fun v hm => ?_⟩⟩
  · have z := s1 _ _ hp
    rw [e, z] at nq
    cases nq
  · rcases List.mem_append.mp hm with hm | hm
    · exact ⟨(av v hm).1.same (upd_new nq), (av v hm).2⟩
    · exact ⟨(aw v hm).1.same (upd_new nq), (aw v hm).2⟩
end
theorem IBs.app {K : PySem.W.Frag} {H : Hp} {xs ys : List V} {bs cs : List Bool} (h : IBs K H xs bs) (h' : IBs K H ys cs) : IBs K H (xs ++ ys) (bs ++ cs) := by
  refine ⟨by rw [List.length_append, List.length_append, h.1, h'.1], fun i x e => ?_⟩
  by_cases l : i < xs.length
  · rw [List.getElem?_append_left l] at e
    rw [List.getElem?_append_left (by rw [← h.1]; exact l)]
    exact h.2 i x e
  · rw [List.getElem?_append_right (by omega)] at e
    rw [List.getElem?_append_right (by rw [← h.1]; omega), ← h.1]
    exact h'.2 _ x e
theorem IBs.one {K : PySem.W.Frag} {H : Hp} {x : V} (h : NotInt K H x) : IBs K H [x] [false] := ⟨rfl, fun i y e => by
  match i, e with
  | 0, e => cases e; exact ⟨false, rfl, .inr ⟨rfl, h⟩⟩⟩
theorem IBs.strs {K : PySem.W.Frag} {H : Hp} (ss : List Str) : IBs K H (ss.map V.str) (List.replicate ss.length false) := ⟨by simp, fun i y e => by
  obtain ⟨s, es, rfl⟩ := map_at e
  have li := (List.getElem?_eq_some_iff.mp es).1
  exact ⟨false, by rw [List.getElem?_replicate_of_lt li], .inr ⟨rfl, NotInt.of (.str s) (by decide)⟩⟩⟩
theorem notInt_bl {K : PySem.W.Frag} {H : Hp} (b : Bool) : NotInt K H (.bl b) := ⟨_, true, .bl b, kit_ty (a := "bool") (b := "int") (r := true) (by decide +kernel), fun _ => kit_ty (a := "bool") (b := "bool") (r := true) (by decide +kernel)⟩
theorem cut_neg1 {ms : List Nat} (h : 0 < ms.length) : cutV (kV ms) none (some (-1)) = kV (ms.take (ms.length - 1)) := by
  have e : sIx (kV ms).length (kV ms).length (some (-1)) = ms.length - 1 := by
    show (if (-1 : Int) < 0 then ((-1 : Int) + ((kV ms).length : Int)).toNat else min (-1 : Int).toNat (kV ms).length) = _
    rw [if_pos (by decide), kV_len]
    omega
  unfold cutV
  rw [sIx_none, e, List.drop_zero, Nat.sub_zero]
  unfold kV
  rw [List.map_take]
theorem np_len {js : List Int} {m : Nat} (h : js.length ≠ m) : ¬ js.Perm (nI (List.range m)) := fun p => h (by rw [p.length_eq, List.length_map, List.length_range])
theorem np_mem {js : List Int} {m : Nat} {j : Int} (h : j ∈ js) (n : ¬ (0 ≤ j ∧ j < m)) : ¬ js.Perm (nI (List.range m)) := fun p => by
  obtain ⟨k, hk, rfl⟩ := List.mem_map.mp (p.mem_iff.mp h)
  have := List.mem_range.mp hk
  exact n ⟨by omega, by omega⟩
theorem np_dup {js : List Int} {m : Nat} (h : ¬ js.Nodup) : ¬ js.Perm (nI (List.range m)) := fun p => h (p.symm.nodup (nI_nd List.nodup_range))
def spBadRow (K : PySem.W.Frag) : Sp := fun vs H Q _ => ∃ (p c : Addr) (m n : Nat), vs = [.ref p, .int m] ∧ m ≤ 20 ∧ Pen H p c n ∧ n + 10 < 100000 ∧ ∀ (v : V) (H' : Hp), Keep p H H' → Pen H' p c (n + 1) → BadS K H' m v → v ≠ .ref p → Q v H'
section
variable {P : Program} {w : World} {K : PySem.W.Frag} {mg : Str → Option Value} {base : Heap} {f : Addr} {fd : FuncData}
theorem ok_badRow (G : Glob mg) (HP : HasSome P w K mg base) (F : DefAt K "_law_bad_row" "_law_bad_row" sBadRow f fd) : FnOk P w K mg base CX0 3 f fd ["_law_vane_here", "_law_many"] (spBadRow K) := by
  obtain ⟨fp, fdp, mP, kP, bP, GP⟩ := HP.h
  refine okN F scBadRow (fun vs H Q E ⟨p, c, m, n, e, _⟩ => by rw [e]; rfl) (fun cdv A outer s H vs Q E hr ⟨p, c, m, n, e, m20, pn, hn, q⟩ => ?_)
  subst e
  refine ⟨_, pss_cons (ps_set (i := 2) scBadRow.nd rfl (Or.inl rfl) (pe_listRg rfl (by rfl) G.lst (prg_1 (by rfl) G.range (pv 1))))
    (pss_cons (ps_set (i := 3) scBadRow.nd rfl (Or.inl rfl) (pe_lst (pa_cons pe_non (pa_cons pe_int (pa_cons pe_str (pa_cons (pe_disp (pps_cons pe_int pe_int pps_nil) rfl rfl (List.cons_ne_nil _ _) (by decide)) (pa_cons (pe_op op_cat (pv 2) (pe_lst (pa_cons (pv 1) pa_nil))) (pa_cons (pe_op op_cat (pv 2) (pe_lst (pa_cons pe_int pa_nil)))
        (pa_cons (pe_op op_cat (pe_lc (own := [("_law_at", 4)]) (g := gName 4) (tt := tYes) rfl scBadRow.nd (pi_list (pv 2)) (blkOk_by (N := nBadRow) (sc := defScope sBadRow) (by decide +kernel)) (fun _ _ _ _ _ => pg_name (i := 4) scBadRow.nd rfl (Or.inl rfl)) (fun _ _ _ _ _ => pts_nil)
            (fun _ _ _ _ _ => pe_callTy call_str_int (by rfl) G.str (by decide +kernel) (pa_cons (pv 4) pa_nil))) (pe_lst (pa_cons pe_str pa_nil)))
        (pa_cons (pe_op op_cat (pv 2) (pe_lst (pa_cons pe_non pa_nil))) pa_nil)))))))))) 
    (pss_cons (ps_if (pt_cmpR op_gt (pv 1) pe_int (nomark _)) (pss_one (ps_set (i := 3) scBadRow.nd rfl (Or.inl rfl) (pe_op op_cat (pv 3) (pe_lst (pa_cons (pe_slice sl_list (pv 2) (po_some pe_int) po_none) (pa_cons (pe_slice sl_list (pv 2) po_none (po_some (pe_un un_neg pe_int)))
        (pa_cons (pe_op op_cat (pe_lst (pa_cons (pe_un un_neg pe_int) pa_nil)) (pe_slice sl_list (pv 2) (po_some pe_int) po_none)) (pa_cons (pe_op op_cat (pe_slice sl_list (pv 2) po_none (po_some (pe_un un_neg pe_int))) (pe_lst (pa_cons (pv 1) pa_nil))) pa_nil)))))))) pss_nil)
    (pss_cons (ps_if (pt_cmpR op_gt (pv 1) pe_int (nomark _)) (pss_one (ps_set (i := 3) scBadRow.nd rfl (Or.inl rfl) (pe_op op_cat (pv 3) (pe_lst (pa_cons (pe_op op_cat (pe_op op_cat (pe_slice sl_list (pv 2) po_none (po_some pe_int)) (pe_lst (pa_cons pe_bl pa_nil))) (pe_slice sl_list (pv 2) (po_some pe_int) po_none))
        (pa_cons (pe_op op_cat (pe_lst (pa_cons pe_int pa_nil)) (pe_slice sl_list (pv 2) po_none (po_some (pe_un un_neg pe_int)))) pa_nil)))))) pss_nil)
    (pss_one (ps_ret (pe_call GP hr rfl mP kP bP .nil pass0 (pa_cons (pv 0) (pa_cons (pv 3) pa_nil)))))))), ?_⟩
  have sz : sizeLine = 16777216 := sizeLine_eq
  obtain ⟨cs, tt, rr, hp, hc, _⟩ := id pn
  refine ⟨_, rfl, (m : Int), rfl, RgOk.of_le (by decide) (by omega) (by decide) (by omega), fun r nr => ?_⟩
  have s1 := upd_new (o := .lst (rgV 0 ((m : Nat) : Int))) nr
  have hr1 : upd H r (.lst (rgV 0 ((m : Nat) : Int))) r = some (.lst (kV (List.range m))) := by rw [upd_same, rg0]
  have hp1 := s1 _ _ hp
  generalize upd H r (.lst (rgV 0 ((m : Nat) : Int))) = H1 at s1 hr1 hp1 ⊢
  have lrow : (kV (List.range m)).length = m := by rw [kV_len, List.length_range]
  have lrg : (List.range m).length = m := List.length_range
  have one_m : ∀ {HB : Hp} {σ : L2.St}, σ[1]? = some (some (.int m)) → LP HB σ (tLst (tCons (tVar 1) tNil)) [.int m] := fun hσ => lp_one fun H Q q => ⟨_, hσ, q⟩
  have one_c : ∀ {HB : Hp} {σ : L2.St} (x : V), LP HB σ (tLst (tCons (tC x) tNil)) [x] := fun x => lp_one fun H Q q => q
  have js_app : ∀ (l : List Nat) (x : Int), ((nI l ++ [x]).map V.int) = kV l ++ [V.int x] := fun l x => by rw [List.map_append, ← kV_eq]; rfl
  have l_nI : ∀ l : List Nat, (nI l).length = l.length := fun l => List.length_map _
  have dict : ∀ {σ : L2.St}, GB K m p H1 σ (tDisp [((tC (.int 0)), (tC (.int 0)))]) := fun {σ} H Q s k d nd => by
    refine ⟨upd_same, [(.inl 0, .int 0)], rfl, by decide, ?_⟩
    rw [upd_upd]
    have s2 := upd_new (o := .dK (mergeK [] [(.inl 0, .int 0)])) nd
    exact k _ _ s2 (.inl (.inl (NotSeq.of (.dK upd_same) (by decide)))) fun e => new_ne (s _ _ hp1) nd (V.ref.inj e)
  dsimp only [gName]
  show tSeq (tAsg _ _) _ _ [some (.ref p), some (.int m), some (.ref r), none, none] H1
  refine seq_any (R := fun v H' => ∃ b, v = .ref b ∧ Same H1 H' ∧ BadL K m p 8 H' b) (fun Q2 kq => ?_) ?_
  · refine badL_lst hp1 (gbs_cons (gb_c (fun H => NotSeq.of .non (by decide)) (fun z => nomatch z)) (gbs_cons (gb_c (fun H => NotSeq.of (.int _) (by decide)) (fun z => nomatch z)) (gbs_cons (gb_c (fun H => NotSeq.of (.str _) (by decide)) (fun z => nomatch z)) (gbs_cons dict
      (gbs_cons (gb_ints (js := nI (List.range m) ++ [(m : Int)]) hp1 (by rw [js_app]; exact lp_var rfl hr1 (one_m rfl) (by rw [lrow]; simp; omega)) (by simp; omega) (np_len (by simp)))
      (gbs_cons (gb_ints (js := nI (List.range m) ++ [0]) hp1 (by rw [js_app]; exact lp_var rfl hr1 (one_c _) (by rw [lrow]; simp; omega)) (by simp; omega) (np_len (by simp)))
      (gbs_cons ?_
      (gbs_cons (gb_odd (bs := List.replicate (nI (List.range m)).length true ++ [false]) hp1 (lp_var rfl hr1 (one_c .non) (by rw [lrow]; simp; omega)) (by rw [List.length_append, lrow]; simp; omega) (fun H => IBs.app (by rw [kV_eq]; exact IBs.ints _) (IBs.one (NotInt.of .non (by decide)))) (by simp)) gbs_nil)))))))) (by decide) (Same.refl H1) fun b H' s' _ hb => kq _ _ ⟨b, rfl, s', hb⟩
    refine gb_odd (xs := ((List.range m).map fun k : Nat => ((toString (k : Int) : String) : Str)).map V.str ++ [.str "0"]) (bs := List.replicate ((List.range m).map fun k : Nat => ((toString (k : Int) : String) : Str)).length false ++ [false]) hp1 (lp_cat (fun H Q s k => ?_) (one_c _) (by simp; omega)) (by simp; omega) (fun H => IBs.app (IBs.strs _) (IBs.one (NotInt.of (.str _) (by decide)))) (by simp)
    refine ⟨_, rfl, r, rfl, ⟨_, SqL.of (s _ _ hr1)⟩, fun D hD => ?_⟩
    refine lc_list (xs := kV (List.range m)) (fun i H2 => Same H H2 ∧ H2 D = some (.lst ((((List.range m).take i).map fun k : Nat => ((toString (k : Int) : String) : Str)).map V.str))) ⟨upd_new hD, upd_same⟩ (fun i H2 _ z => SqL.of (z.1 _ _ (s _ _ hr1))) ?_ ?_
    · rintro i y H2 hy ⟨s2, hd⟩
      obtain ⟨k', ek, rfl⟩ := map_at hy
      have lk := List.mem_range.mp (List.mem_of_getElem? ek)
      refine ⟨rfl, yes_of ⟨_, rfl, (k' : Int), rfl, log_k (by omega), _, hd, by simp; omega, same_upd hD s2, ?_⟩⟩
      rw [take_more ek, upd_same, List.map_append, List.map_append]
      rfl
    · rintro H2 ⟨s2, hd⟩
      rw [lrow, List.take_of_length_le (by rw [List.length_range]; exact Nat.le_refl _)] at hd
      exact k D H2 s2 hD hd
  rintro _ H2 ⟨b, rfl, s2, hb⟩
  show tSeq (tIfS _ _ _) _ _ [some (.ref p), some (.int m), some (.ref r), some (.ref b), none] H2
  have cut1 : ∀ j : Nat, j ≤ m → cutV (kV (List.range m)) (some (j : Int)) none = (nI ((List.range m).drop j)).map V.int := fun j hj => by rw [cut_from (by rw [lrg]; exact hj), kV_eq]
  have cut2 : ∀ j : Nat, j ≤ m → cutV (kV (List.range m)) none (some (j : Int)) = (nI ((List.range m).take j)).map V.int := fun j hj => by rw [cut_first (by rw [lrg]; exact hj), kV_eq]
  have cut3 : 0 < m → cutV (kV (List.range m)) none (some (-1)) = (nI ((List.range m).take (m - 1))).map V.int := fun h => by rw [cut_neg1 (by rw [lrg]; exact h), lrg, kV_eq]
  have po_n : ∀ {σ : L2.St} (H : Hp) (R : Option Int → Hp → Prop), R none H → tNoPart σ H R := fun H R q => q
  have neg1 : ∀ {σ : L2.St} (H : Hp) (R : Option Int → Hp → Prop), R (some (-1)) H → tPart (tUn (rU fun i => .int (-i)) (tC (.int 1))) σ H R := fun H R q => ⟨1, rfl, -1, rfl, q⟩
  have app_js : ∀ (x : Int) (l : List Int), (([x] ++ l).map V.int) = [V.int x] ++ l.map V.int := fun x l => rfl
  refine seq_st (fun σ' H' => ∃ b j, σ' = [some (.ref p), some (.int m), some (.ref r), some (.ref b), none] ∧ Same H1 H' ∧ BadL K m p j H' b ∧ 0 < j ∧ j ≤ 12) (fun N kn => ?_) ?_
  · refine ⟨_, rfl, _, _, rfl, rfl, decide ((0 : Int) < (m : Int)), rfl, ?_⟩
    by_cases m0 : 0 < m
    · rw [decide_eq_true (show (0 : Int) < (m : Int) by omega)]
      refine iteT ?_
      have hr2 := s2 _ _ hr1
      refine badL_cat (n := 4) (i := 3) (s2 _ _ hp1) rfl hb (gbs_cons (gb_ints (js := nI ((List.range m).drop 1)) (s2 _ _ hp1) (by rw [← cut1 1 (by omega)]; exact lp_sl rfl hr2 (fun H R q => ⟨1, rfl, q⟩) po_n) (by rw [l_nI]; simp; omega) (np_len (by rw [l_nI]; simp; omega)))
        (gbs_cons (gb_ints (js := nI ((List.range m).take (m - 1))) (s2 _ _ hp1) (by rw [← cut3 m0]; exact lp_sl rfl hr2 po_n neg1) (by rw [l_nI]; simp; omega) (np_len (by rw [l_nI]; simp; omega)))
        (gbs_cons ?_ (gbs_cons ?_ gbs_nil)))) (by decide) fun b' H' s' hb' => kn _ _ ⟨b', 12, rfl, s2.trans s', hb', by decide, by decide⟩
      · refine gb_ints (js := [-1] ++ nI ((List.range m).drop 1)) (s2 _ _ hp1) (by rw [app_js, ← cut1 1 (by omega)]; exact lp_cat (lp_one fun H Q q => ⟨1, rfl, q⟩) (lp_sl rfl hr2 (fun H R q => ⟨1, rfl, q⟩) po_n) (by rw [cut1 1 (by omega)]; simp; omega)) (by simp; omega) (np_mem (j := -1) (by simp) (by omega))
      · refine gb_ints (js := nI ((List.range m).take (m - 1)) ++ [(m : Int)]) (s2 _ _ hp1) (by rw [List.map_append, ← cut3 m0]; exact lp_cat (lp_sl rfl hr2 po_n neg1) (one_m rfl) (by rw [cut3 m0]; simp; omega)) (by simp; omega) (np_mem (j := m) (by simp) (by omega))
    · rw [decide_eq_false (show ¬ (0 : Int) < (m : Int) by omega)]
      exact iteF (kn _ _ ⟨b, 8, rfl, s2, hb, by decide, by decide⟩)
  rintro _ H3 ⟨b, j, rfl, s3, hb, j0, j12⟩
  refine seq_st (fun σ' H' => ∃ b j, σ' = [some (.ref p), some (.int m), some (.ref r), some (.ref b), none] ∧ Same H1 H' ∧ BadL K m p j H' b ∧ 0 < j ∧ j ≤ 14) (fun N kn => ?_) ?_
  · refine ⟨_, rfl, _, _, rfl, rfl, decide ((1 : Int) < (m : Int)), rfl, ?_⟩
    by_cases m1 : 1 < m
    · rw [decide_eq_true (show (1 : Int) < (m : Int) by omega)]
      refine iteT ?_
      have hr3 := s3 _ _ hr1
      refine badL_cat (n := 2) (i := 3) (s3 _ _ hp1) rfl hb (gbs_cons ?_ (gbs_cons ?_ gbs_nil)) (by omega) fun b' H' s' hb' => kn _ _ ⟨b', j + 2, rfl, s3.trans s', hb', by omega, by omega⟩
      · refine gb_odd (xs := (kV ((List.range m).take 1) ++ [.bl true]) ++ kV ((List.range m).drop 2)) (bs := (List.replicate (nI ((List.range m).take 1)).length true ++ [false]) ++ List.replicate (nI ((List.range m).drop 2)).length true) (s3 _ _ hp1)
          (by rw [← cut_first (show 1 ≤ (List.range m).length by omega), ← cut_from (show 2 ≤ (List.range m).length by omega)]
              exact lp_cat (lp_cat (lp_sl rfl hr3 po_n (fun H R q => ⟨1, rfl, q⟩)) (one_c _) (by rw [cut2 1 (by omega)]; simp; omega)) (lp_sl rfl hr3 (fun H R q => ⟨2, rfl, q⟩) po_n) (by rw [cut2 1 (by omega), cut1 2 (by omega)]; simp; omega)) (by rw [List.length_append, List.length_append, kV_len, kV_len]; simp; omega)
          (fun H => IBs.app (IBs.app (by rw [kV_eq]; exact IBs.ints _) (IBs.one (notInt_bl true))) (by rw [kV_eq]; exact IBs.ints _)) (by simp)
      · refine gb_ints (js := [0] ++ nI ((List.range m).take (m - 1))) (s3 _ _ hp1) (by rw [app_js, ← cut3 (by omega)]; exact lp_cat (one_c _) (lp_sl rfl hr3 po_n neg1) (by rw [cut3 (by omega)]; simp; omega)) (by simp; omega) (np_dup fun z => ?_)
        have := (List.nodup_cons.mp z).1
        exact this (List.mem_map.mpr ⟨0, List.mem_iff_getElem?.mpr ⟨0, by rw [List.getElem?_take_of_lt (by omega), List.getElem?_range (by omega)]⟩, rfl⟩)
    · rw [decide_eq_false (show ¬ (1 : Int) < (m : Int) by omega)]
      exact iteF (kn _ _ ⟨b, j, rfl, s3, hb, j0, by omega⟩)
  rintro _ H4 ⟨b, j, rfl, s4, ⟨bp, vs, hv, lv, al⟩, j0, j14⟩
  have sA := s1.trans s4
  refine ⟨_, rfl, _, rfl, p, c, b, vs, n, rfl, .inl hv, bp, by omega, by omega, pn.same sA, by omega, fun i v H5 ev k5 pn5 => ?_⟩
  obtain ⟨bv, nv⟩ := al v (List.mem_of_getElem? ev)
  exact q v H5 ((theKeep sA).trans k5) pn5 (bv.kn nv (Keep.kn k5)) nv
end
end K5

/-! k44: _law_refused_right. -/
namespace K5
open PySem PySem.Spec PyProof.Rows L2 LamX K1 K18 NdefX

/-- f(e, .., k = v, ..), n values by place -/
structure HasKwN (P : Program) (w : World) (K : PySem.W.Frag) (mg : Str → Option Value) (base : Heap) (CX : CXT) (k : Nat) (x : Str) (ps ks : List Str) (n : Nat) (gV : List V → List V → List V) (sp : Sp) : Prop where
  h : ∃ f fd g, mg x = some (.ref f) ∧ PySem.W.keepIn K (.ref f) = true ∧ KBn K fd ps n ks g gV ∧ FnOk P w K mg base CX k f fd ps sp
/-! ### one of several values -/
def GP (Pr : Hp → V → Prop) (p : Addr) (H0 : Hp) (σ : L2.St) (te : TE) : Prop := ∀ (H : Hp) (Q : VK), Same H0 H → (∀ (v : V) (H' : Hp), Same H H' → Pr H' v → v ≠ .ref p → Q v H') → te σ H Q
def GPs (Pr : Hp → V → Prop) (p : Addr) (H0 : Hp) (σ : L2.St) (ta : TA) (n : Nat) : Prop := ∀ (H : Hp) (Q : List V → Hp → Prop), Same H0 H → (∀ (vs : List V) (H' : Hp), Same H H' → vs.length = n → (∀ v ∈ vs, Pr H' v ∧ v ≠ .ref p) → Q vs H') → ta σ H Q
/-- it stays -/
def Stays (Pr : Hp → V → Prop) (p : Addr) : Prop := ∀ (H H' : Hp) (v : V), v ≠ .ref p → KeepN p H H' → Pr H v → Pr H' v
section
variable {Pr : Hp → V → Prop} {p c : Addr} {H0 H : Hp} {σ : L2.St} {te : TE} {ta : TA} {xs : List V} {x : V} {i n k : Nat} {o : HO} {Q : VK}
theorem gp_c (h : ∀ H, Pr H x) (ne : x ≠ .ref p) : GP Pr p H0 σ (tC x) := fun H Q s k => k x H (Same.refl H) (h H) ne
theorem gp_var (hσ : σ[i]? = some (some x)) (h : Pr H0 x) (st : Stays Pr p) (ne : x ≠ .ref p) : GP Pr p H0 σ (tVar i) := fun H Q s k => ⟨_, hσ, k x H (Same.refl H) (st _ _ _ ne (Same.kn s) h) ne⟩
theorem gp_lp (hp : H0 p = some o) (A : LP H0 σ te xs) (h : ∀ (H' : Hp) (l : Addr), H' l = some (.lst xs) → Pr H' (.ref l)) : GP Pr p H0 σ te := fun H Q s k =>
  A H _ s fun b H1 s1 nb hb => k _ H1 s1 (h _ _ hb) fun e => new_ne (s _ _ hp) nb (V.ref.inj e)
theorem lp_two {tx ty : TE} {y : V} (h1 : ∀ (H : Hp) (Q : VK), Q x H → tx σ H Q) (h2 : ∀ (H : Hp) (Q : VK), Q y H → ty σ H Q) : LP H0 σ (tLst (tCons tx (tCons ty tNil))) [x, y] := fun H Q s k => h1 _ _ (h2 _ _ ⟨(by show 2 ≤ sizeLine; rw [sizeLine_eq]; omega), fun l nl => k l _ (upd_new nl) nl upd_same⟩)
theorem gp_e (h : ∀ (H : Hp) (Q : VK), Q x H → te σ H Q) (hx : ∀ H, Pr H x) (ne : x ≠ .ref p) : GP Pr p H0 σ te := fun H Q s k => h H Q (k x H (Same.refl H) (hx H) ne)
theorem gp_dict (hp : H0 p = some o) (h : ∀ (H' : Hp) (l : Addr) (kvs : List (Key × V)), H' l = some (.dK kvs) → Pr H' (.ref l)) : GP Pr p H0 σ (tDisp [((tC (.int 0)), (tC (.int 0)))]) := fun H Q s k d nd => by
  refine ⟨upd_same, [(.inl 0, .int 0)], rfl, by decide, ?_⟩
  rw [upd_upd]
  exact k _ _ (upd_new nd) (h _ _ _ upd_same) fun e => new_ne (s _ _ hp) nd (V.ref.inj e)
theorem lp_nil : LP H0 σ (tLst tNil) [] := fun H Q s k => ⟨(by show 0 ≤ sizeLine; rw [sizeLine_eq]; omega), fun l nl => k l _ (upd_new nl) nl upd_same⟩
theorem gp_tup1 (hp : H0 p = some o) (h : ∀ (H' : Hp) (l : Addr), H' l = some (.tup [x]) → Pr H' (.ref l)) : GP Pr p H0 σ (tTup (tCons (tC x) tNil)) := fun H Q s k =>
  ⟨(by show 1 ≤ sizeLine; rw [sizeLine_eq]; omega), fun l nl => k _ _ (upd_new nl) (h _ _ upd_same) fun e => new_ne (s _ _ hp) nl (V.ref.inj e)⟩
theorem gps_nil : GPs Pr p H0 σ tNil 0 := fun H Q s k => k [] H (Same.refl H) rfl fun v hv => nomatch hv
theorem gps_cons (st : Stays Pr p) (A : GP Pr p H0 σ te) (B : GPs Pr p H0 σ ta n) : GPs Pr p H0 σ (tCons te ta) (n + 1) := fun H Q s k =>
  A H _ s fun v H1 s1 bv nv => B H1 _ (s.trans s1) fun vs H2 s2 l al => k (v :: vs) H2 (s1.trans s2) (by rw [List.length_cons, l]) fun w hw => by
    rcases List.mem_cons.mp hw with rfl | hw
    · exact ⟨st _ _ _ nv (Same.kn s2) bv, nv⟩
    · exact al w hw
theorem some_of (hσ : σ[0]? = some (some (.ref p))) (pn : Pen H p c n) (hn : n < 100000) (st : Stays Pr p) (A : GPs Pr p H σ ta k) (k0 : 0 < k) (k20 : k ≤ 20) (q : ∀ (v : V) (H' : Hp), Keep p H H' → Pen H' p c (n + 1) → Pr H' v → v ≠ .ref p → Q v H') :
    tCall spSome [] E0 (tCons (tVar 0) (tCons (tLst ta) tNil)) σ H Q := by
  obtain ⟨cs, tt, rr, hp, hc, _⟩ := id pn
  refine ⟨_, hσ, A H _ (Same.refl H) fun vs H1 s1 lv al => ⟨(by rw [sizeLine_eq]; omega), fun b nb => ?_⟩⟩
  have s2 := s1.trans (upd_new (o := .lst vs) nb)
  refine ⟨p, c, b, vs, n, rfl, .inl upd_same, new_ne (s1 _ _ hp) nb, by omega, by omega, pn.same s2, hn, fun i v H5 ev k5 pn5 => ?_⟩
  obtain ⟨bv, nv⟩ := al v (List.mem_of_getElem? ev)
  exact q v H5 ((theKeep s2).trans k5) pn5 (st _ _ _ nv (KeepN.trans (Same.kn (upd_new nb)) (Keep.kn k5)) bv) nv
end
/-! ### what is asked with -/
def NoneP (H : Hp) (v : V) : Prop := v = .non ∨ v = .str "zz" ∨ v = .int 5 ∨ v = .str "" ∨ (∃ a, v = .ref a ∧ H a = some (.lst [])) ∨ ∃ a, v = .ref a ∧ H a = some (.tup [.str "t"])
def BrkP (K : PySem.W.Frag) (H : Hp) (v : V) : Prop := (NotSeq K H v ∨ ∃ a xs bs, v = .ref a ∧ SqA H a xs ∧ xs.length ≤ 1000 ∧ (∀ H', IBs K H' xs bs) ∧ bs.all id = false) ∨ ∃ (b : Addr) (js : List Int), v = .ref b ∧ SqA H b (js.map V.int) ∧ js.length ≤ 1000 ∧ ¬ js.Perm (nI (List.range js.length))
theorem BrkP.no {K : PySem.W.Frag} {H : Hp} {v : V} (h : BrkP K H v) : NoRow K H v := h.imp (fun z => z.imp id fun ⟨a, xs, bs, e, sq, l, ib, al⟩ => ⟨a, xs, bs, e, sq, l, ib H, al⟩) id
section
variable {p : Addr}
theorem st_odd {K : PySem.W.Frag} {CS : Addr} : Stays (NotSw K CS) p := fun H H' v np k ⟨t, ty, q⟩ => ⟨t, TyOf.kn np k ty, q⟩
theorem st_none : Stays NoneP p := fun H H' v np k h => by
  rcases h with h | h | h | h | ⟨a, e, h⟩ | ⟨a, e, h⟩
  · exact .inl h
  · exact .inr (.inl h)
  · exact .inr (.inr (.inl h))
  · exact .inr (.inr (.inr (.inl h)))
  · exact .inr (.inr (.inr (.inr (.inl ⟨a, e, k _ _ (fun w => np (by rw [e, w])) h (fun _ z => nomatch z)⟩))))
  · exact .inr (.inr (.inr (.inr (.inr ⟨a, e, k _ _ (fun w => np (by rw [e, w])) h (fun _ z => nomatch z)⟩))))
theorem st_brk {K : PySem.W.Frag} : Stays (BrkP K) p := fun H H' v np k h =>
  h.imp (fun z => z.imp (fun ⟨t, ty, q⟩ => ⟨t, TyOf.kn np k ty, q⟩) fun ⟨a, xs, bs, e, sq, l, ib, al⟩ => ⟨a, xs, bs, e, SqA.kn (fun w => np (by rw [e, w])) k sq, l, ib, al⟩) fun ⟨b, js, e, sq, l, n⟩ => ⟨b, js, e, SqA.kn (fun w => np (by rw [e, w])) k sq, l, n⟩
theorem st_start {K : PySem.W.Frag} {m : Nat} : Stays (fun H v => NoStart K H m v) p := fun H H' v np k h => h.imp (fun ⟨t, c, ty, q⟩ => ⟨t, c, TyOf.kn np k ty, q⟩) id
end
theorem NoneP.extN {H H' : Hp} {v : V} (x : ExtN H H') (h : NoneP H v) : NoneP H' v := by
  rcases h with h | h | h | h | ⟨a, e, h⟩ | ⟨a, e, h⟩
  · exact .inl h
  · exact .inr (.inl h)
  · exact .inr (.inr (.inl h))
  · exact .inr (.inr (.inr (.inl h)))
  · exact .inr (.inr (.inr (.inr (.inl ⟨a, e, x _ _ h (fun _ z => nomatch z)⟩))))
  · exact .inr (.inr (.inr (.inr (.inr ⟨a, e, x _ _ h (fun _ z => nomatch z)⟩))))
theorem NoneP.strange {K : PySem.W.Frag} {H : Hp} {ns : List Str} {v : V} (h : NoneP H v) (nz : ("zz" : Str) ∉ ns) (ne : ("" : Str) ∉ ns) : Strange K H ns v := by
  rcases h with rfl | rfl | rfl | rfl | ⟨a, rfl, h⟩ | ⟨a, rfl, h⟩
  · exact .inl (NotStr.of .non (by decide))
  · exact .inr ⟨_, rfl, by decide +kernel, nz⟩
  · exact .inl (NotStr.of (.int _) (by decide))
  · exact .inr ⟨_, rfl, by decide +kernel, ne⟩
  · exact .inl (NotStr.of (.lst h) (by decide))
  · exact .inl ⟨_, .tup h, kit_ty (a := "tuple") (b := "str") (r := false) (by decide +kernel)⟩
theorem NoneP.tld {K : PySem.W.Frag} {H : Hp} {v : V} (h : NoneP H v) : ∃ d, Tld K H v d := by
  rcases h with rfl | rfl | rfl | rfl | ⟨a, rfl, h⟩ | ⟨a, rfl, h⟩
  · exact ⟨_, by decide +kernel, by simp [PyData.depth], fun H' _ => .non⟩
  · exact ⟨_, by decide +kernel, by simp [PyData.depth], fun H' _ => .str _⟩
  · exact ⟨_, by decide +kernel, by simp [PyData.depth], fun H' _ => .int _⟩
  · exact ⟨_, by decide +kernel, by simp [PyData.depth], fun H' _ => .str _⟩
  · exact ⟨.list [], by decide +kernel, by simp [PyData.depth, PyData.depthAll], fun H' x => .lst (SqL.of (x _ _ h (fun _ z => nomatch z))) .nil⟩
  · exact ⟨.tuple [.str "t"], by decide +kernel, by simp [PyData.depth, PyData.depthAll], fun H' x => .tup (SqT.of (x _ _ h (fun _ z => nomatch z))) (.cons (.str _) .nil)⟩
abbrev qRefused : Str := (("_law_refused_right" : Str) ++ (".<locals>." : Str)) ++ ("<lambda>" : Str)
abbrev nRefused : List Str := ["_law_vane_here", "_law_swap", "_law_row", "_law_odd", "_law_bad", "_law_none", "_law_ask", "_law_broken", "_law_start"]
theorem scRefused : FnScope nRefused ["_law_vane_here", "_law_swap", "_law_row"] (defScope sRefused) := ⟨rfl, rfl, rfl, by decide +kernel, rfl, by decide +kernel, by decide +kernel⟩
def spRefused (T : List (Addr × Str)) (C CH CS : Addr) : Sp := fun vs H Q _ => ∃ (p c a b : Addr) (ns : List Str) (hs : List Hnd) (n : Nat), vs = [.ref p, .ref a, .ref b] ∧ Tabs T H ∧ Pen H p c n ∧ n + 20 < 100000 ∧ SwAt C CH CS H a ns hs ∧ SwOk ns hs ∧ HnSm hs ∧ hs.length ≤ 8 ∧ (("zz" : Str) ∉ ns) ∧ (("" : Str) ∉ ns) ∧
  b ≠ p ∧ H b = some (.lst (kV (List.range hs.length))) ∧ ∀ H', KeepN p H H' → Pen H' p c (n + 5) → Tabs T H' → Q (.bl true) H'
section
variable {P : Program} {w : World} {K : PySem.W.Frag} {mg : Str → Option Value} {base : Heap} {f C CH CS CW CB CU CN CL cc PT_ : Addr} {fd : FuncData}
theorem ok_refused {T : List (Addr × Str)} (G : Glob mg) (O : ∀ t ∈ ["NoneType", "int", "str", "list"], PySem.W.kitOne K (.type t) (.ref CS) = some false) (RF : RatF K C) (MR : MkR P w K mg base C) (HP : HasSome P w K mg base) (HD : Has P w K mg base CX0 3 "_law_bad_row" ["_law_vane_here", "_law_many"] (spBadRow K)) (OL : LenO P w K mg base C CH CS)
    (HA : HasAsk P w K mg base C CH CS CW CB CN CL) (HB : HasBegunAt P w K mg base CB CU) (HK : HasKwN P w K mg base (L2.CX P w) 4 "begun_at" ["row", "start"] ["start"] 1 (fun vs zs => vs ++ zs) (spBegunAt K CB CU)) (HF : HasFault K mg CW CB CU CN CL)
    (TB : TabB base mg cc PT_) (memT : (PT_, qRefused) ∈ T) (uniT : ∀ p ∈ T, p.1 = PT_ → p.2 = qRefused)
    (F : DefC K "_law_refused_right" "_law_refused_right" sRefused f fd cc) : FnG P w K mg base CX0 15 f fd ["_law_vane_here", "_law_swap", "_law_row"] (spRefused T C CH CS) := by
  obtain ⟨f1, fd1, m1, k1, b1, G1⟩ := HA.s.h
  obtain ⟨f2, fd2, m2, k2, b2, G2⟩ := HA.b.h
  obtain ⟨fp, fdp, mP, kP, bP, GP_⟩ := HP.h
  obtain ⟨fd', fdd, mD, kD_, bD, GD⟩ := HD.h
  obtain ⟨fl, fdl, ML, bL, GL⟩ := OL.o.h
  obtain ⟨fb, fdb, mB, kB, bB, GB_⟩ := HB.h
  obtain ⟨fk, fdk, gk, mK, kK, bK, GK⟩ := HK.h
  obtain ⟨fm, fdm, ds, M, GM, _, hv, bM⟩ := MR.m
  refine okGC F scRefused (fun vs H Q E ⟨p, c, a, b, ns, hs, n, e, _⟩ => by rw [e]; rfl) (fun A outer s H vs Q E gd hr ⟨p, c, a, b, ns, hs, n, e, tb, pn, hn, ha, ok, sm, l8, nz, ne, bp, hb, q⟩ => ?_)
  subst e
  have hu64 : (A.deeper (envOfC "_law_refused_right" (defScope sRefused) s.heap.objs.size f (.ref cc))).units + 64 < cLine := by have := hr.un; omega
  have r2 := hr.mono (show 2 ≤ 14 by decide)
  refine ⟨_, pss_cons (ps_asg (pe_tup (pa_cons (pe_call GP_ r2 rfl mP kP bP .nil pass0 (pa_cons (pv 0) (pa_cons (pe_lst (pa_cons pe_non (pa_cons pe_int (pa_cons pe_str (pa_cons (pv 2) pa_nil))))) pa_nil)))
      (pa_cons (pe_call GD (hr.mono (by decide)) rfl mD kD_ bD .nil pass0 (pa_cons (pv 0) (pa_cons (pe_callB (call_lenO ML GL (hr.mono (by decide)) bL pass0) (by rfl) G.len PySem.boot_len (pa_cons (pv 1) pa_nil)) pa_nil)))
      (pa_cons (pe_call GP_ r2 rfl mP kP bP .nil pass0 (pa_cons (pv 0) (pa_cons (pe_lst (pa_cons pe_non (pa_cons pe_str (pa_cons pe_int (pa_cons pe_str (pa_cons (pe_lst pa_nil) (pa_cons (pe_tup (pa_cons pe_str pa_nil)) pa_nil))))))) pa_nil))) pa_nil))))
      (pg_tup (by rfl) (pgs_cons (pg_name (i := 3) scRefused.nd rfl (Or.inr rfl)) (pgs_cons (pg_name (i := 4) scRefused.nd rfl (Or.inr rfl)) (pgs_cons (pg_name (i := 5) scRefused.nd rfl (Or.inr rfl)) pgs_nil)))))
    (pss_cons (ps_for PassesOwn.never rfl (pi_tup (pe_tup (pa_cons (pe_glob (v := .ref f1) rfl m1 rfl) (pa_cons (pe_glob (v := .ref f2) rfl m2 rfl) pa_nil)))) (pg_name (i := 6) scRefused.nd rfl (Or.inr rfl))
      (pss_cons (ps_if (pt_cmpR (op_neD hu64) (pe_ft (X := (cxOf CX0 P w K mg base nRefused "_law_refused_right" (defScope sRefused) f (.ref cc) A outer s H E).nox) (T := T) HF TB hr rfl rfl memT uniT (lamS_by (sc := defScope sRefused) (by decide +kernel)) rfl (fun _ _ _ _ _ => rfl)
        (fun σ0 A2 o2 s2 H2 E2 f2' c2 hr2 cf => pe_at (pe_alt (pe_callL (i := 6) (E := E2) G1 (hr2.mono (by decide)) rfl (by first | exact Or.inl rfl | exact Or.inr (Or.inl rfl) | exact Or.inr (Or.inr rfl)) k1 b1 .nil (passes_call (takes_of rfl rfl rfl rfl) fun _ _ _ _ z => z) (pa_cons (pv 3) (pa_cons (pv 4) (pa_cons (pv 5) pa_nil))))
          (pe_callL (i := 6) (E := E2) G2 (hr2.mono (by decide)) rfl (by first | exact Or.inl rfl | exact Or.inr (Or.inl rfl) | exact Or.inr (Or.inr rfl)) k2 b2 .nil (passes_call (takes_of rfl rfl rfl rfl) fun _ _ _ _ z => z) (pa_cons (pv 3) (pa_cons (pv 4) (pa_cons (pv 5) pa_nil))))) fun _ _ h => h)) (pe_tup (pa_cons pe_str (pa_cons pe_str pa_nil))) (nomark _)) (pss_one (ps_ret pe_bl)) pss_nil)
      (pss_cons (ps_if (pt_cmpR (op_neD hu64) (pe_ft (X := (cxOf CX0 P w K mg base nRefused "_law_refused_right" (defScope sRefused) f (.ref cc) A outer s H E).nox) (T := T) HF TB hr rfl rfl memT uniT (lamS_by (sc := defScope sRefused) (by decide +kernel)) rfl (fun _ _ _ _ _ => rfl)
        (fun σ0 A2 o2 s2 H2 E2 f2' c2 hr2 cf => pe_at (pe_alt (pe_callL (i := 6) (E := E2) G1 (hr2.mono (by decide)) rfl (by first | exact Or.inl rfl | exact Or.inr (Or.inl rfl) | exact Or.inr (Or.inr rfl)) k1 b1 .nil (passes_call (takes_of rfl rfl rfl rfl) fun _ _ _ _ z => z) (pa_cons (pv 1) (pa_cons (pv 4) (pa_cons (pv 5) pa_nil))))
          (pe_callL (i := 6) (E := E2) G2 (hr2.mono (by decide)) rfl (by first | exact Or.inl rfl | exact Or.inr (Or.inl rfl) | exact Or.inr (Or.inr rfl)) k2 b2 .nil (passes_call (takes_of rfl rfl rfl rfl) fun _ _ _ _ z => z) (pa_cons (pv 1) (pa_cons (pv 4) (pa_cons (pv 5) pa_nil))))) fun _ _ h => h)) (pe_tup (pa_cons pe_str (pa_cons pe_str pa_nil))) (nomark _)) (pss_one (ps_ret pe_bl)) pss_nil)
      (pss_cons (ps_if (pt_cmpR (op_neD hu64) (pe_ft (X := (cxOf CX0 P w K mg base nRefused "_law_refused_right" (defScope sRefused) f (.ref cc) A outer s H E).nox) (T := T) HF TB hr rfl rfl memT uniT (lamS_by (sc := defScope sRefused) (by decide +kernel)) rfl (fun _ _ _ _ _ => rfl)
        (fun σ0 A2 o2 s2 H2 E2 f2' c2 hr2 cf => pe_at (pe_alt (pe_callL (i := 6) (E := E2) G1 (hr2.mono (by decide)) rfl (by first | exact Or.inl rfl | exact Or.inr (Or.inl rfl) | exact Or.inr (Or.inr rfl)) k1 b1 .nil (passes_call (takes_of rfl rfl rfl rfl) fun _ _ _ _ z => z) (pa_cons (pv 1) (pa_cons (pv 2) (pa_cons (pv 5) pa_nil))))
          (pe_callL (i := 6) (E := E2) G2 (hr2.mono (by decide)) rfl (by first | exact Or.inl rfl | exact Or.inr (Or.inl rfl) | exact Or.inr (Or.inr rfl)) k2 b2 .nil (passes_call (takes_of rfl rfl rfl rfl) fun _ _ _ _ z => z) (pa_cons (pv 1) (pa_cons (pv 2) (pa_cons (pv 5) pa_nil))))) fun _ _ h => h)) (pe_tup (pa_cons pe_str (pa_cons (pv 5) pa_nil))) (nomark _)) (pss_one (ps_ret pe_bl)) pss_nil) pss_nil))))
    (pss_cons (ps_set (i := 7) scRefused.nd rfl (Or.inr rfl) (pe_call GP_ r2 rfl mP kP bP .nil pass0 (pa_cons (pv 0) (pa_cons (pe_lst (pa_cons pe_non (pa_cons pe_int (pa_cons pe_str (pa_cons (pe_lst (pa_cons pe_int pa_nil)) (pa_cons (pe_lst (pa_cons pe_int (pa_cons pe_int pa_nil))) (pa_cons (pe_lst (pa_cons pe_int (pa_cons pe_int pa_nil)))
        (pa_cons (pe_lst (pa_cons pe_int (pa_cons pe_bl pa_nil))) (pa_cons (pe_lst (pa_cons pe_int (pa_cons pe_str pa_nil))) (pa_cons (pe_lst (pa_cons (pe_un un_neg pe_int) (pa_cons pe_int pa_nil))) (pa_cons (pe_disp (pps_cons pe_int pe_int pps_nil) rfl rfl (List.cons_ne_nil _ _) (by decide)) pa_nil))))))))))) pa_nil))))
    (pss_cons (ps_set (i := 8) scRefused.nd rfl (Or.inr rfl) (pe_call GP_ r2 rfl mP kP bP .nil pass0 (pa_cons (pv 0) (pa_cons (pe_lst (pa_cons (pe_un un_neg pe_int) (pa_cons pe_non (pa_cons pe_bl (pa_cons pe_str (pa_cons (pe_callB (call_max2 rfl) (by rfl) G.max (by decide +kernel) (pa_cons pe_int (pa_cons (pe_callB (r := rLenA K) (call_lenA rfl) (by rfl) G.len PySem.boot_len (pa_cons (pv 2) pa_nil)) pa_nil))) (pa_cons pe_int
        (pa_cons (pe_make (E := E0) M GM (hr.mono (by decide)) rfl MR.g bM hv pass0 (pa_cons pe_int pa_nil)) pa_nil)))))))) pa_nil))))
    (pss_cons (ps_if (pt_cmpR (op_neD hu64) (pe_ft (X := (cxOf CX0 P w K mg base nRefused "_law_refused_right" (defScope sRefused) f (.ref cc) A outer s H E).nox) (T := T) HF TB hr rfl rfl memT uniT (lamS_by (sc := defScope sRefused) (by decide +kernel)) rfl (fun _ _ _ _ _ => rfl)
        (fun σ0 A2 o2 s2 H2 E2 f2' c2 hr2 cf => pe_at (pe_call (E := E2) GB_ (hr2.mono (by decide)) rfl mB kB bB .nil (passes_call (takes_of rfl rfl rfl rfl) fun _ _ _ _ z => z) (pa_cons (pv 7) (pa_cons (pv 8) pa_nil))) fun _ _ h => h)) (pe_tup (pa_cons pe_str (pa_cons pe_str pa_nil))) (nomark _)) (pss_one (ps_ret pe_bl)) pss_nil)
    (pss_cons (ps_if (pt_cmpR (op_neD hu64) (pe_ft (X := (cxOf CX0 P w K mg base nRefused "_law_refused_right" (defScope sRefused) f (.ref cc) A outer s H E).nox) (T := T) HF TB hr rfl rfl memT uniT (lamS_by (sc := defScope sRefused) (by decide +kernel)) rfl (fun _ _ _ _ _ => rfl)
        (fun σ0 A2 o2 s2 H2 E2 f2' c2 hr2 cf => pe_at (pe_call (E := E2) GB_ (hr2.mono (by decide)) rfl mB kB bB .nil (passes_call (takes_of rfl rfl rfl rfl) fun _ _ _ _ z => z) (pa_cons (pv 2) (pa_cons (pv 8) pa_nil))) fun _ _ h => h)) (pe_tup (pa_cons pe_str (pa_cons pe_str pa_nil))) (nomark _)) (pss_one (ps_ret pe_bl)) pss_nil)
    (pss_one (ps_ret (pe_and (pe_cmpR (op_eqD hu64) (pe_call (E := E0) GB_ (hr.mono (by decide)) rfl mB kB bB .nil passL (pa_cons (pe_tup pa_nil) (pa_cons pe_int pa_nil))) (pe_tup pa_nil) (nomark _))
      (pe_one (pe_cmpR (op_eqD hu64) (pe_callN (E := E0) GK (hr.mono (by decide)) rfl mK kK bK passL (pa_cons (pe_lst (pa_cons pe_int pa_nil)) pa_nil) (pk_cons pe_int pk_nil)) (pe_tup (pa_cons pe_int pa_nil)) (nomark _))))))))))), ?_⟩
  have sz : sizeLine = 16777216 := sizeLine_eq
  obtain ⟨cs, tt, rr, hp, hc, _⟩ := id pn
  have off := pn.off
  refine some_of (σ := L2.start nRefused [.ref p, .ref a, .ref b]) (k := 4) (Pr := NotSw K CS) rfl pn (by omega) st_odd
    (gps_cons st_odd (gp_c (fun H => ⟨_, .non, O _ (by decide)⟩) (fun z => nomatch z)) (gps_cons st_odd (gp_c (fun H => ⟨_, .int _, O _ (by decide)⟩) (fun z => nomatch z)) (gps_cons st_odd (gp_c (fun H => ⟨_, .str _, O _ (by decide)⟩) (fun z => nomatch z))
      (gps_cons st_odd (gp_var rfl ⟨_, .lst hb, O _ (by decide)⟩ st_odd (fun z => bp (V.ref.inj z))) gps_nil)))) (by decide) (by decide) fun v1 H1 k1 pn1 odd1 ne1 => ?_
  have tb1 := pn.tabs k1 tb
  have ha1 := ha.kn off (Keep.kn k1)
  have hb1 := k1 _ _ bp hb
  obtain ⟨dx, _, _, _, _, _, hx1, _⟩ := id ha1
  refine ⟨_, rfl, _, rfl, a, dx, _, rfl, hx1, a, ns, hs, rfl, ha1, _, rfl, by omega, by omega, p, c, hs.length, n + 1, rfl, by omega, pn1, by omega, fun v2 H2 k2 pn2 bad2 ne2 => ?_⟩
  have tb2 := pn1.tabs k2 tb1
  have ha2 := ha1.kn pn1.off (Keep.kn k2)
  have hb2 := k2 _ _ bp hb1
  have odd2 := st_odd _ _ _ ne1 (Keep.kn k2) odd1
  obtain ⟨cs2, tt2, rr2, hp2, _⟩ := id pn2
  refine some_of (σ := L2.start nRefused [.ref p, .ref a, .ref b]) (k := 6) (Pr := NoneP) rfl pn2 (by omega) st_none
    (gps_cons st_none (gp_c (fun H => .inl rfl) (fun z => nomatch z)) (gps_cons st_none (gp_c (fun H => .inr (.inl rfl)) (fun z => nomatch z)) (gps_cons st_none (gp_c (fun H => .inr (.inr (.inl rfl))) (fun z => nomatch z)) (gps_cons st_none (gp_c (fun H => .inr (.inr (.inr (.inl rfl)))) (fun z => nomatch z))
      (gps_cons st_none (gp_lp hp2 lp_nil fun H' l h => .inr (.inr (.inr (.inr (.inl ⟨l, rfl, h⟩))))) (gps_cons st_none (gp_tup1 hp2 fun H' l h => .inr (.inr (.inr (.inr (.inr ⟨l, rfl, h⟩))))) gps_nil)))))) (by decide) (by decide) fun v3 H3 k3 pn3 none3 ne3 => ?_
  have tb3 := pn2.tabs k3 tb2
  have ha3 := ha2.kn pn2.off (Keep.kn k3)
  have hb3 := k3 _ _ bp hb2
  have odd3 := st_odd _ _ _ ne1 (Keep.kn k3) odd2
  have bad3 := bad2.kn ne2 (Keep.kn k3)
  have k03 : KeepN p H H3 := (Keep.kn k1).trans ((Keep.kn k2).trans (Keep.kn k3))
  refine ⟨(by show 3 ≤ sizeLine; omega), fun t nt => ?_⟩
  have s4 := upd_new (o := .tup [v1, v2, v3]) nt
  have ht : upd H3 t (.tup [v1, v2, v3]) t = some (.tup [v1, v2, v3]) := upd_same
  have tb4 := tabs_same s4 tb3
  have ha4 := ha3.same s4
  have hb4 := s4 _ _ hb3
  have odd4 := odd3.same s4
  have bad4 := bad3.same s4
  have none4 := none3.extN (Same.extN s4)
  have pn4 := pn3.same s4
  have k04 : KeepN p H (upd H3 t (.tup [v1, v2, v3])) := k03.trans (Same.kn s4)
  generalize upd H3 t (.tup [v1, v2, v3]) = H4 at s4 ht tb4 ha4 hb4 odd4 bad4 none4 pn4 k04 ⊢
  refine ⟨t, _, rfl, SqT.of ht, rfl, _, _, rfl, _, _, rfl, _, _, rfl, rfl, ?_⟩
  have pmR : (List.range hs.length).Perm (List.range hs.length) := List.Perm.refl _
  have tsw : ∀ H, Tld K H (.str "swap") (.str "swap") := fun H => ⟨by decide +kernel, by simp [PyData.depth], fun H' _ => .str _⟩
  have trow : ∀ H, Tld K H (.str "row") (.str "row") := fun H => ⟨by decide +kernel, by simp [PyData.depth], fun H' _ => .str _⟩
  have tst : ∀ H, Tld K H (.str "start") (.str "start") := fun H => ⟨by decide +kernel, by simp [PyData.depth], fun H' _ => .str _⟩
  refine ⟨(by show 2 ≤ sizeLine; omega), fun t2 nt2 => ?_⟩
  have s5 := upd_new (o := .tup [V.ref f1, .ref f2]) nt2
  have ht2 : upd H4 t2 (.tup [V.ref f1, .ref f2]) t2 = some (.tup [V.ref f1, .ref f2]) := upd_same
  generalize upd H4 t2 (.tup [V.ref f1, .ref f2]) = H5 at s5 ht2 ⊢
  refine ⟨t2, rfl, ⟨_, SqT.of ht2⟩, ?_⟩
  refine for_it (walk_tup (xs := [V.ref f1, .ref f2])) (fun i σ H6 => ExtN H5 H6 ∧ Tabs T H6 ∧ ∃ z, σ = [some (.ref p), some (.ref a), some (.ref b), some v1, some v2, some v3, z, none, none]) ⟨ExtN.refl _, tabs_same s5 tb4, none, rfl⟩ (fun i σ H6 _ z => SqT.of (z.1 _ _ ht2 (fun _ z => nomatch z))) ?_ ?_
  · rintro i v σ H6 H7 hi ⟨x6, tb6, z, rfl⟩ ⟨rfl, ev⟩
    obtain ⟨fx, rfl, hf⟩ : ∃ fx, v = .ref fx ∧ (fx = f1 ∨ fx = f2) := by
      match i, ev with
      | 0, ev => cases ev; exact ⟨_, rfl, .inl rfl⟩
      | 1, ev => cases ev; exact ⟨_, rfl, .inr rfl⟩
      | i + 2, ev => exact nomatch ev
    have x46 := (Same.extN s5).trans x6
    dsimp only [gName]
    refine pair_step (K := K) (x := .str "swap") (d := .str "swap") (by decide +kernel) (tsw _) (fun H' Q' hq => hq) fw_w tb6 (fun H8 x8 tb8 E8 Q8 hE => ?_) fun H8 x8 tb8 => ?_
    · have x48 := x46.trans x8
      exact ask2 rfl hf fun P' kk => ⟨_, rfl, _, rfl, _, rfl, kk _ _ _ _ fun good => .inl ⟨let ⟨t, ty, q⟩ := odd4; ⟨t, TyOf.extN x48 ty, q⟩, hE⟩⟩
    have x48 := x46.trans x8
    refine pair_step (K := K) (x := .str "row") (d := .str "row") (by decide +kernel) (trow _) (fun H' Q' hq => hq) fw_b tb8 (fun H9 x9 tb9 E9 Q9 hE => ?_) fun H9 x9 tb9 => ?_
    · have x49 := x48.trans x9
      exact ask2 rfl hf fun P' kk => ⟨_, rfl, _, rfl, _, rfl, kk _ _ _ _ fun good => .inr ⟨a, ns, hs, rfl, ha4.extN x49, ok, sm, by omega, .inl ⟨bad4.bad.extN x49, hE⟩⟩⟩
    have x49 := x48.trans x9
    obtain ⟨d3, tl3⟩ := (none4.extN x49).tld (K := K)
    refine pair_step (K := K) (x := v3) (d := d3) (by decide +kernel) tl3 (fun H' Q' hq => ⟨_, rfl, hq⟩) fw_n tb9 (fun H10 x10 tb10 E10 Q10 hE => ?_) fun H10 x10 tb10 => ⟨((x6.trans x8).trans x9).trans x10, tb10, _, rfl⟩
    have x410 := x49.trans x10
    exact ask2 rfl hf fun P' kk => ⟨_, rfl, _, rfl, _, rfl, kk _ _ _ _ fun good => .inr ⟨a, ns, hs, rfl, ha4.extN x410, ok, sm, by omega, .inr ⟨b, List.range hs.length, rfl, SqA.extN x410 (.inl hb4), pmR, .inr ⟨(none4.extN x410).strange nz ne, hE⟩⟩⟩⟩
  rintro σ H6 ⟨x6, tb6, z, rfl⟩
  have x46 := (Same.extN s5).trans x6
  have pn6 := pn4.extN x46
  have hb6 := x46 _ _ hb4 (fun _ z => nomatch z)
  have k06 := k04.trans (ExtN.kn x46)
  obtain ⟨cs6, tt6, rr6, hp6, _⟩ := id pn6
  have c_ : ∀ {σ : L2.St} {x : V} (H : Hp) (Q : VK), Q x H → tC x σ H Q := fun H Q q => q
  have neg_ : ∀ {σ : L2.St} (H : Hp) (Q : VK), Q (.int (-1)) H → tUn (rU fun i => .int (-i)) (tC (.int 1)) σ H Q := fun H Q q => ⟨1, rfl, q⟩
  dsimp only
  refine seq_any (R := fun v H' => Keep p H6 H' ∧ Pen H' p c (n + 4) ∧ BrkP K H' v ∧ v ≠ .ref p) (fun Q2 kq => ?_) ?_
  · refine some_of (k := 10) (Pr := BrkP K) rfl pn6 (by omega) st_brk
      (gps_cons st_brk (gp_c (fun H => .inl (.inl (NotSeq.of .non (by decide)))) (fun z => nomatch z)) (gps_cons st_brk (gp_c (fun H => .inl (.inl (NotSeq.of (.int _) (by decide)))) (fun z => nomatch z)) (gps_cons st_brk (gp_c (fun H => .inl (.inl (NotSeq.of (.str _) (by decide)))) (fun z => nomatch z))
      (gps_cons st_brk (gp_lp hp6 (lp_one c_) fun H' l h => .inr ⟨l, [1], rfl, .inl h, by decide, by decide⟩)
      (gps_cons st_brk (gp_lp hp6 (lp_two c_ c_) fun H' l h => .inr ⟨l, [0, 0], rfl, .inl h, by decide, by decide⟩)
      (gps_cons st_brk (gp_lp hp6 (lp_two c_ c_) fun H' l h => .inr ⟨l, [0, 2], rfl, .inl h, by decide, by decide⟩)
      (gps_cons st_brk (gp_lp hp6 (lp_two c_ c_) fun H' l h => .inl (.inr ⟨l, [.int 0, .bl true], [true, false], rfl, .inl h, by decide, fun H'' => IBs.app (IBs.ints [0]) (IBs.one (notInt_bl true)), rfl⟩))
      (gps_cons st_brk (gp_lp hp6 (lp_two c_ c_) fun H' l h => .inl (.inr ⟨l, [.int 0, .str "1"], [true, false], rfl, .inl h, by decide, fun H'' => IBs.app (IBs.ints [0]) (IBs.one (NotInt.of (.str _) (by decide))), rfl⟩))
      (gps_cons st_brk (gp_lp hp6 (lp_two neg_ c_) fun H' l h => .inr ⟨l, [-1, 0], rfl, .inl h, by decide, by decide⟩)
      (gps_cons st_brk (gp_dict hp6 fun H' l kvs h => .inl (.inl (NotSeq.of (.dK h) (by decide)))) gps_nil)))))))))) (by decide) (by decide) fun v H' k' pn' b' n' => kq _ _ ⟨k', pn', b', n'⟩
  rintro v7 H7 ⟨k7, pn7, brk7, ne7⟩
  have tb7 := pn6.tabs k7 tb6
  have hb7 := k7 _ _ bp hb6
  have k07 := k06.trans (Keep.kn k7)
  obtain ⟨cs7, tt7, rr7, hp7, _⟩ := id pn7
  have lkR : (kV (List.range hs.length)).length = hs.length := by rw [kV_len, List.length_range]
  show tSeq (tAsg _ _) _ _ [some (.ref p), some (.ref a), some (.ref b), some v1, some v2, some v3, z, some v7, none] H7
  refine seq_any (R := fun v H' => Keep p H7 H' ∧ Pen H' p c (n + 5) ∧ NoStart K H' hs.length v ∧ v ≠ .ref p) (fun Q2 kq => ?_) ?_
  · refine some_of (k := 7) (Pr := fun H v => NoStart K H hs.length v) rfl pn7 (by omega) st_start
      (gps_cons st_start (gp_e (x := .int (-1)) neg_ (fun H => .inr ⟨_, rfl, by omega⟩) (fun z => nomatch z)) (gps_cons st_start (gp_c (fun H => .inl (NotInt.of .non (by decide))) (fun z => nomatch z)) (gps_cons st_start (gp_c (fun H => .inl (notInt_bl true)) (fun z => nomatch z)) (gps_cons st_start (gp_c (fun H => .inl (NotInt.of (.str _) (by decide))) (fun z => nomatch z))
      (gps_cons st_start (fun H' Q' s' k' => ?_) (gps_cons st_start (gp_c (fun H => .inr ⟨9, rfl, by omega⟩) (fun z => nomatch z)) (gps_cons st_start (fun H' Q' s' k' => ?_) gps_nil))))))) (by decide) (by decide) fun v H' k' pn' b' n' => kq _ _ ⟨k', pn', b', n'⟩
    · refine ⟨_, rfl, b, _, rfl, .inl (SqL.of (s' _ _ hb7)), 1, _, rfl, k' _ _ (Same.refl _) (.inr ⟨_, rfl, ?_⟩) (fun z => nomatch z)⟩
      rw [lkR]
      split <;> omega
    · refine mk_int (by decide) fun r H'' s'' nr hr' => k' _ _ s'' (.inl ?_) fun e => new_ne (s' _ _ hp7) nr (V.ref.inj e)
      obtain ⟨dr, er⟩ := hr'
      exact ⟨_, false, RF.ty er, RF.noI, fun z => nomatch z⟩
  rintro v8 H8 ⟨k8, pn8, st8, ne8⟩
  have tb8 := pn7.tabs k8 tb7
  have hb8 := k8 _ _ bp hb7
  have k08 := k07.trans (Keep.kn k8)
  have brk8 := st_brk _ _ _ ne7 (Keep.kn k8) brk7
  show tSeq (tIfS _ _ _) _ _ [some (.ref p), some (.ref a), some (.ref b), some v1, some v2, some v3, z, some v7, some v8] H8
  refine pair_step (K := K) (x := .str "row") (d := .str "row") (by decide +kernel) (trow _) (fun H' Q' hq => hq) fw_b tb8 (fun H9 x9 tb9 E9 Q9 hE => ?_) fun H9 x9 tb9 => ?_
  · exact ⟨_, rfl, _, rfl, v7, v8, rfl, .inl ⟨(st_brk (p := p) _ _ _ ne7 (ExtN.kn x9) brk8).no, hE⟩⟩
  refine pair_step (K := K) (x := .str "start") (d := .str "start") (by decide +kernel) (tst _) (fun H' Q' hq => hq) fw_u tb9 (fun H10 x10 tb10 E10 Q10 hE => ?_) fun H10 x10 tb10 => ?_
  · refine ⟨_, rfl, _, rfl, _, v8, rfl, .inr ⟨b, List.range hs.length, rfl, SqA.extN (x9.trans x10) (.inl hb8), by rw [List.length_range], by rw [List.length_range]; omega, .inl ⟨?_, hE⟩⟩⟩
    rw [List.length_range]
    exact st_start (p := p) _ _ _ ne8 (ExtN.kn (x9.trans x10)) st8
  have x810 := x9.trans x10
  refine ⟨(by show 0 ≤ sizeLine; omega), fun w1 nw1 => ?_⟩
  have y1 := upd_new (o := .tup []) nw1
  have hw1 : upd H10 w1 (.tup []) w1 = some (.tup (kV [])) := upd_same
  generalize upd H10 w1 (.tup []) = K1 at y1 hw1 ⊢
  refine ⟨_, _, rfl, .inr ⟨w1, [], rfl, .inr hw1, List.Perm.refl _, by decide, .inr ⟨0, rfl, by decide, fun r1 K2 y2 hr1 => ?_⟩⟩⟩
  refine ⟨(by show 0 ≤ sizeLine; omega), fun w2 nw2 => ?_⟩
  have y3 := upd_new (o := .tup []) nw2
  have hw2 : upd K2 w2 (.tup []) w2 = some (.tup []) := upd_same
  generalize upd K2 w2 (.tup []) = K3 at y3 hw2 ⊢
  refine ⟨.tuple [], .tuple [], .tup (SqT.of (y3 _ _ hr1)) .nil, .tup (SqT.of hw2) .nil, by decide +kernel, by decide +kernel, true, by simp [PyData.eqv, PyData.eqvAll], iteT ?_⟩
  refine ⟨(by show 1 ≤ sizeLine; omega), fun w3 nw3 => ?_⟩
  have y4 := upd_new (o := .lst [V.int 0]) nw3
  have hw3 : upd K3 w3 (.lst [V.int 0]) w3 = some (.lst (kV [0])) := upd_same
  generalize upd K3 w3 (.lst [V.int 0]) = K4 at y4 hw3 ⊢
  refine ⟨rfl, rfl, _, _, rfl, .inr ⟨w3, [0], rfl, .inl hw3, List.Perm.refl _, by decide, .inr ⟨0, rfl, by decide, fun r2 K5 y5 hr2 => ?_⟩⟩⟩
  refine ⟨(by show 1 ≤ sizeLine; omega), fun w4 nw4 => ?_⟩
  have y6 := upd_new (o := .tup [V.int 0]) nw4
  have hw4 : upd K5 w4 (.tup [V.int 0]) w4 = some (.tup [V.int 0]) := upd_same
  generalize upd K5 w4 (.tup [V.int 0]) = K6 at y6 hw4 ⊢
  refine ⟨.tuple [.int 0], .tuple [.int 0], .tup (SqT.of (y6 _ _ hr2)) (.cons (.int _) .nil), .tup (SqT.of hw4) (.cons (.int _) .nil), by decide +kernel, by decide +kernel, ?_⟩
  rw [show PyData.eqv (.tuple [.int 0]) (.tuple [.int 0]) = true by simp [PyData.eqv, PyData.eqvAll]]
  have yA := (((y1.trans y2).trans y3).trans y4).trans (y5.trans y6)
  exact q _ ((k08.trans (ExtN.kn x810)).trans (Same.kn yA)) ((pn8.extN x810).same yA) (tabs_same yA tb10)
end
end K5

/-! k44: _law_pair_right. -/
namespace K5
open PySem PySem.Spec PyProof.Rows L2 LamX K1 K18 HT

abbrev nPair : List Str := ["_law_vane_here", "_law_names", "_law_unit", "_law_hands", "_law_flat", "_law_giver", "_law_taker", "_law_cost", "_law_gain", "_law_rest", "_law_swap", "_law_row", "_law_hand"]
theorem scPair : FnScope nPair ["_law_vane_here", "_law_names", "_law_unit", "_law_hands"] (defScope sPair) := ⟨rfl, rfl, rfl, by decide +kernel, rfl, by decide +kernel, by decide +kernel⟩
def spPair : Sp := fun vs H Q _ => ∃ (p c nm hw : Addr) (ns : List Str) (rs : List Row) (u k n : Nat), vs = [.ref p, .ref nm, .int u, .ref hw] ∧ Pen H p c n ∧ n + 70 < 100000 ∧ Unit6 u k ∧ H nm = some (.lst (ns.map V.str)) ∧ nm ≠ p ∧ hw ≠ p ∧ 2 ≤ ns.length ∧ ns.length ≤ 6 ∧ ns.Nodup ∧ (∀ n ∈ ns, Nm n) ∧
  RwL H hw rs ∧ (∀ r ∈ rs, RwOk ns.length r ∧ r.c < 10) ∧ rs.length ≤ 6 ∧ ∀ (H' : Hp), Keep p H H' → Pen H' p c (n + 7) → Q (.bl true) H'
abbrev HasOrder (P : Program) (w : World) (K : PySem.W.Frag) (mg : Str → Option Value) (base : Heap) : Prop := Has P w K mg base CX0 2 "_law_order" ["_law_vane_here", "_law_many"] spOrder
abbrev HasMade (P : Program) (w : World) (K : PySem.W.Frag) (mg : Str → Option Value) (base : Heap) (C CH CS : Addr) : Prop := Has P w K mg base CX0 10 "_law_made" ["_law_names", "_law_unit", "_law_hands"] (spMade C CH CS)
section
variable {P : Program} {w : World} {K : PySem.W.Frag} {mg : Str → Option Value} {base : Heap} {f C CH CS CW CB CU CN CL : Addr} {fd : FuncData}
theorem ok_pair (G : Glob mg) (HA : HasAsk P w K mg base C CH CS CW CB CN CL) (HM : HasMade P w K mg base C CH CS) (HOr : HasOrder P w K mg base) (F : DefAt K "_law_pair_right" "_law_pair_right" sPair f fd) :
    FnOk P w K mg base CX0 12 f fd ["_law_vane_here", "_law_names", "_law_unit", "_law_hands"] spPair := by
  obtain ⟨f1, fd1, m1, k1, b1, G1⟩ := HA.s.h
  obtain ⟨f2, fd2, m2, k2, b2, G2⟩ := HA.b.h
  obtain ⟨fm, fdm, mM, kM, bM, GM⟩ := HM.h
  obtain ⟨fo, fdo, mO, kO, bO, GO⟩ := HOr.h
  refine okN F scPair (fun vs H Q E ⟨p, c, nm, hw, ns, rs, u, k, n, e, _⟩ => by rw [e]; rfl) (fun cdv A outer s H vs Q E hr ⟨p, c, nm, hw, ns, rs, u, k, n, e, pn, hn, uk, hnm, np, hp, n2, n6, nd, nmo, rwl, ok, l6, q⟩ => ?_)
  subst e
  have hu64 : (A.deeper (envOfC "_law_pair_right" (defScope sPair) s.heap.objs.size f cdv)).units + 64 < cLine := by have := hr.un; omega
  refine ⟨_, pss_cons (ps_set (i := 4) scPair.nd rfl (Or.inl rfl) (pe_lst pa_nil))
    (pss_cons (ps_for PassesOwn.never rfl (pi_list (pv 3)) (pg_tup (by rfl) (pgs_cons (pg_name (i := 5) scPair.nd rfl (Or.inl rfl)) (pgs_cons (pg_name (i := 6) scPair.nd rfl (Or.inl rfl)) (pgs_cons (pg_name (i := 7) scPair.nd rfl (Or.inl rfl)) (pgs_cons (pg_name (i := 8) scPair.nd rfl (Or.inl rfl)) pgs_nil)))))
      (pss_one (ps_expr (pe_bm PySem.F.plainAttrs_list PySem.F.slot_list_append PySem.F.type_list_append mt_append (pv 4) (pa_cons (pe_tup (pa_cons (pe_op op_mod (pe_callTy call_int1 (by rfl) G.int (by decide +kernel) (pa_cons (pv 5) pa_nil)) pe_int)
        (pa_cons (pe_op op_sub pe_int (pe_op op_mod (pe_callTy call_int1 (by rfl) G.int (by decide +kernel) (pa_cons (pv 5) pa_nil)) pe_int)) (pa_cons (pv 7) (pa_cons (pv 7) pa_nil))))) pa_nil)))))
    (pss_cons (ps_set (i := 9) scPair.nd rfl (Or.inl rfl) (pe_callB (cr_sum rfl) (by rfl) G.sum (by decide +kernel) (pa_cons (pe_lc (own := [("_law_hand", 12)]) (g := gName 12) (tt := tYes) rfl scPair.nd (pi_list (pv 4)) (blkOk_by (N := nPair) (sc := defScope sPair) (by decide +kernel)) (fun _ _ _ _ _ => pg_name (i := 12) scPair.nd rfl (Or.inl rfl)) (fun _ _ _ _ _ => pts_nil)
        (fun _ _ _ _ _ => pe_ifExp (pt_cmpR op_eq (pe_ix (r := rIxT K) ix_tup (pv 12) pe_int (fun _ _ => rfl)) pe_int (nomark _)) (pe_ix (r := rIxT K) ix_tup (pv 12) pe_int (fun _ _ => rfl)) (pe_un un_neg (pe_ix (r := rIxT K) ix_tup (pv 12) pe_int (fun _ _ => rfl))))) pa_nil)))
    (pss_cons (ps_expr (pe_bm PySem.F.plainAttrs_list PySem.F.slot_list_append PySem.F.type_list_append mt_append (pv 4) (pa_cons (pe_ifExp (pt_cmpR op_ge (pv 9) pe_int (nomark _)) (pe_tup (pa_cons pe_int (pa_cons pe_int (pa_cons (pv 9) (pa_cons (pv 9) pa_nil))))) (pe_tup (pa_cons pe_int (pa_cons pe_int (pa_cons (pe_un un_neg (pv 9)) (pa_cons (pe_un un_neg (pv 9)) pa_nil)))))) pa_nil)))
    (pss_cons (ps_par (i := 10) (j := 11) (by rfl) scPair.nd rfl rfl (by decide) rfl rfl (pa_cons (pe_call GM (hr.mono (by decide)) rfl mM kM bM .nil pass0 (pa_cons (pe_slice sl_list (pv 1) po_none (po_some pe_int)) (pa_cons (pv 2) (pa_cons (pv 4) pa_nil))))
      (pa_cons (pe_call GO (hr.mono (by decide)) rfl mO kO bO .nil pass0 (pa_cons (pv 0) (pa_cons (pe_callB (r := rLenA K) (call_lenA rfl) (by rfl) G.len PySem.boot_len (pa_cons (pv 4) pa_nil)) pa_nil))) pa_nil)) (by rfl))
    (pss_cons (ps_if (pt_cmpR (op_neD hu64) (pe_call (E := E0) G1 hr rfl m1 k1 b1 .nil passL (pa_cons (pv 10) (pa_cons (pv 11) (pa_cons (pe_ix (r := rIxL K) ix_list (pv 1) pe_int (fun _ _ => rfl)) pa_nil)))) (pe_call (E := E0) G2 hr rfl m2 k2 b2 .nil passL (pa_cons (pv 10) (pa_cons (pv 11) (pa_cons (pe_ix (r := rIxL K) ix_list (pv 1) pe_int (fun _ _ => rfl)) pa_nil)))) (nomark _)) (pss_one (ps_ret pe_bl)) pss_nil)
    (pss_one (ps_ret (pe_cmpR (op_eqD hu64) (pe_call (E := E0) G2 hr rfl m2 k2 b2 .nil passL (pa_cons (pv 10) (pa_cons (pe_callTy (r := rTupK K) (call_tupK rfl) (by rfl) G.tup (by decide +kernel) (pa_cons (pv 11) pa_nil)) (pa_cons (pe_ix (r := rIxL K) ix_list (pv 1) pe_int (fun _ _ => rfl)) pa_nil))))
      (pe_call (E := E0) G1 hr rfl m1 k1 b1 .nil passL (pa_cons (pv 10) (pa_cons (pe_callTy (r := rTupK K) (call_tupK rfl) (by rfl) G.tup (by decide +kernel) (pa_cons (pv 11) pa_nil)) (pa_cons (pe_ix (r := rIxL K) ix_list (pv 1) pe_int (fun _ _ => rfl)) pa_nil)))) (nomark _))))))))), ?_⟩
  have sz : sizeLine = 16777216 := sizeLine_eq
  obtain ⟨cs, tt, rr, hpp, hcc, _⟩ := id pn
  refine ⟨(by show 0 ≤ sizeLine; omega), fun d nd' => ⟨_, rfl, ?_⟩⟩
  have s1 := upd_new (o := .lst []) nd'
  have hd1 : upd H d (.lst []) d = some (.lst []) := upd_same
  have dp : d ≠ p := new_ne hpp nd'
  generalize upd H d (.lst []) = H1 at s1 hd1 ⊢
  obtain ⟨ras, hrw, ral⟩ := id rwl
  refine ⟨hw, rfl, ⟨_, SqL.of (s1 _ _ hrw)⟩, ?_⟩
  refine for_it (walk_list (xs := ras.map V.ref)) (fun i σ H3 => ∃ (z4 z5 z6 z7 : Option V), σ = [some (.ref p), some (.ref nm), some (.int u), some (.ref hw), some (.ref d), z4, z5, z6, z7, none, none, none, none] ∧ Same H H3 ∧ RwL H3 d ((rs.take i).map flatR))
    ⟨none, none, none, none, rfl, s1, [], hd1, by simpa using All2.nil⟩ ?_ ?_ ?_
  · rintro i σ H3 hi ⟨z4, z5, z6, z7, rfl, s3, _⟩
    exact SqL.of (s3 _ _ hrw)
  · rintro i x σ _ H3 hi ⟨z4, z5, z6, z7, rfl, s3, as, hd3, al3⟩ ⟨rfl, ex⟩
    obtain ⟨a, ea, rfl⟩ := map_at ex
    obtain ⟨r, er, ra⟩ := ral.get ea
    have li := (List.getElem?_eq_some_iff.mp er).1
    refine ⟨a, rV r, rfl, SqT.of (s3 _ _ ra), rfl, _, _, rfl, _, _, rfl, _, _, rfl, _, _, rfl, rfl, ?_⟩
    refine ⟨_, rfl, .inl ⟨rfl, _, SqL.of hd3⟩, ?_⟩
    refine ⟨_, rfl, .inl ⟨(r.g : Int), rfl, _, _, rfl, rfl, (by show (0 : Int) < 2; decide), ?_⟩⟩
    refine ⟨_, rfl, .inl ⟨(r.g : Int), rfl, _, _, rfl, rfl, (by show (0 : Int) < 2; decide), _, _, rfl, rfl, ?_⟩⟩
    refine ⟨_, rfl, _, rfl, (by show 4 ≤ sizeLine; omega), fun t nt => ?_⟩
    have st := upd_new (o := .tup [.int ((r.g : Int) % 2), .int (1 - (r.g : Int) % 2), .int r.c, .int r.c]) nt
    have e1 : ((flatR r).g : Int) = (r.g : Int) % 2 := by show ((r.g % 2 : Nat) : Int) = _; omega
    have e2 : ((flatR r).t : Int) = 1 - (r.g : Int) % 2 := by show ((1 - r.g % 2 : Nat) : Int) = _; omega
    have ht : RwAt (upd H3 t (.tup [.int ((r.g : Int) % 2), .int (1 - (r.g : Int) % 2), .int r.c, .int r.c])) t (flatR r) := by
      show upd H3 t _ t = some (.tup [.int ((flatR r).g : Int), .int ((flatR r).t : Int), .int (flatR r).c, .int (flatR r).d])
      rw [upd_same, e1, e2]
      rfl
    have hd4 := st _ _ hd3
    generalize upd H3 t (.tup [.int ((r.g : Int) % 2), .int (1 - (r.g : Int) % 2), .int r.c, .int r.c]) = H4 at st ht hd4 ⊢
    have las := al3.1
    rw [List.length_map, List.length_take] at las
    refine ⟨d, as.map V.ref, .ref t, rfl, rfl, hd4, by rw [List.length_map]; omega, _, _, _, _, rfl, same_upd nd' (s3.trans st), as ++ [t], by rw [upd_same, List.map_append]; rfl, ?_⟩
    rw [take_more er, List.map_append]
    have up : ∀ {a : Addr} {r : Row} {o : HO}, RwAt H4 a r → RwAt (upd H4 d o) a r := fun z => (upd_ne (ne_of z hd4 (fun z => nomatch z))).trans z
    exact All2.snoc (al3.mono fun x y z => up (st _ _ z)) (up ht)
  rintro σ H3 ⟨z4, z5, z6, z7, rfl, s3, rw3⟩
  rw [List.length_map, ral.1, List.take_length] at rw3
  obtain ⟨as, hd3, al3⟩ := id rw3
  have las := al3.1
  rw [List.length_map] at las
  dsimp only
  -- the rest
  refine seq_any (R := fun v H' => v = .int (restR rs) ∧ Same H3 H') (fun Q2 kq => ?_) ?_
  · refine ⟨_, rfl, d, rfl, ⟨_, SqL.of hd3⟩, fun D hD => ?_⟩
    refine lc_list (xs := as.map V.ref) (fun i H2 => Same H3 H2 ∧ H2 D = some (.lst ((((rs.map flatR).take i).map owes).map V.int))) ⟨upd_new hD, upd_same⟩ (fun i H2 _ z => SqL.of (z.1 _ _ hd3)) ?_ ?_
    · rintro i y H2 hy ⟨s2, hd⟩
      obtain ⟨a, ea, rfl⟩ := map_at hy
      obtain ⟨r, er, ra⟩ := al3.get ea
      have li := (List.getElem?_eq_some_iff.mp ea).1
      have lr := (List.getElem?_eq_some_iff.mp er).1
      have ra2 := s2 _ _ ra
      have at0 : atI (rV r) 0 = some (.int r.g) := rfl
      have at2 : atI (rV r) 2 = some (.int r.c) := rfl
      have fin : ∀ v, v = V.int (owes r) → ∃ acc, H2 D = some (.lst acc) ∧ acc.length < sizeLine ∧ (Same H3 (upd H2 D (.lst (acc ++ [v]))) ∧ upd H2 D (.lst (acc ++ [v])) D = some (.lst ((((rs.map flatR).take (i + 1)).map owes).map V.int))) := fun v ev =>
        ⟨_, hd, by rw [List.length_map, List.length_map, List.length_take, List.length_map]; omega, same_upd hD s2, by rw [take_more er, upd_same, ev, List.map_append, List.map_append]; rfl⟩
      refine ⟨rfl, yes_of ⟨_, rfl, a, rV r, 0, _, rfl, rfl, SqT.of ra2, at0, rfl, decide (r.g = 0), congrArg V.bl (decide_eq_decide.mpr ⟨fun e => by have e := V.int.inj e; omega, fun e => by rw [e]; rfl⟩), ?_⟩⟩
      by_cases e : r.g = 0
      · rw [decide_eq_true e]
        exact iteT ⟨_, rfl, a, rV r, 2, _, rfl, rfl, SqT.of ra2, at2, fin _ (by unfold owes; rw [if_pos e])⟩
      · rw [decide_eq_false e]
        exact iteF ⟨_, rfl, a, rV r, 2, _, rfl, rfl, SqT.of ra2, at2, _, rfl, fin _ (by unfold owes; rw [if_neg e])⟩
    · rintro H2 ⟨s2, hd⟩
      rw [List.length_map, las, List.take_of_length_le (by rw [List.length_map]; exact Nat.le_refl _)] at hd
      exact ⟨D, _, rfl, SqL.of hd, kq _ _ ⟨rfl, s2⟩⟩
  rintro _ H4 ⟨rfl, s4⟩
  have rw4 := rw3.same s4
  have hd4 := s4 _ _ hd3
  have bd := rest_bd ok l6
  refine seq_st (fun σ' H' => σ' = [some (.ref p), some (.ref nm), some (.int u), some (.ref hw), some (.ref d), z4, z5, z6, z7, some (.int (restR rs)), none, none, none] ∧ Same H H' ∧ RwL H' d (pairRs rs)) (fun N kn => ?_) ?_
  · have fin : ∀ (t : Addr) (H5 : Hp), Same H4 H5 → RwAt H5 t (lastR (restR rs)) → Same H (upd H5 d (.lst (as.map V.ref ++ [.ref t]))) ∧ RwL (upd H5 d (.lst (as.map V.ref ++ [.ref t]))) d (pairRs rs) := fun t H5 s5 ht => by
      have hd5 := s5 _ _ hd4
      have up : ∀ {a : Addr} {r : Row} {o : HO}, RwAt H5 a r → RwAt (upd H5 d o) a r := fun z => (upd_ne (ne_of z hd5 (fun z => nomatch z))).trans z
      refine ⟨same_upd nd' ((s3.trans s4).trans s5), as ++ [t], by rw [upd_same, List.map_append]; rfl, ?_⟩
      exact All2.snoc (al3.mono fun x y z => up (s5 _ _ (s4 _ _ z))) (up ht)
    have lsz : (as.map V.ref).length < sizeLine := by rw [List.length_map]; omega
    refine ⟨_, rfl, .inl ⟨rfl, _, SqL.of hd4⟩, _, rfl, _, _, rfl, rfl, decide (0 ≤ restR rs), rfl, ?_⟩
    by_cases e : 0 ≤ restR rs
    · rw [decide_eq_true e]
      refine iteT ⟨_, rfl, _, rfl, (by show 4 ≤ sizeLine; omega), fun t nt => ?_⟩
      have s5 := upd_new (o := .tup [.int 1, .int 0, .int (restR rs), .int (restR rs)]) nt
      obtain ⟨f1, f2⟩ := fin t _ s5 (by unfold lastR; rw [if_pos e]; exact upd_same)
      exact ⟨d, as.map V.ref, .ref t, rfl, rfl, s5 _ _ hd4, lsz, kn _ _ ⟨rfl, f1, f2⟩⟩
    · rw [decide_eq_false e]
      refine iteF ⟨_, rfl, _, rfl, _, rfl, _, rfl, (by show 4 ≤ sizeLine; omega), fun t nt => ?_⟩
      have s5 := upd_new (o := .tup [.int 0, .int 1, .int (-restR rs), .int (-restR rs)]) nt
      obtain ⟨f1, f2⟩ := fin t _ s5 (by unfold lastR; rw [if_neg e]; exact upd_same)
      exact ⟨d, as.map V.ref, .ref t, rfl, rfl, s5 _ _ hd4, lsz, kn _ _ ⟨rfl, f1, f2⟩⟩
  rintro _ H5 ⟨rfl, s5, rw5⟩
  obtain ⟨bs, hd5, al5⟩ := id rw5
  have lp : (pairRs rs).length = rs.length + 1 := by unfold pairRs; rw [List.length_append, List.length_map]; rfl
  have okP := pair_ok (fun r hr => ok r hr) l6
  have lbs := al5.1
  -- the swap, the row
  refine ⟨_, rfl, 2, rfl, nm, _, rfl, SqL.of (s5 _ _ hnm), fun n2a nn2 => ?_⟩
  have s6 := upd_new (o := .lst (cutV (ns.map V.str) none (some 2))) nn2
  have hn2 : upd H5 n2a (.lst (cutV (ns.map V.str) none (some 2))) n2a = some (.lst ((ns.take 2).map V.str)) := by rw [upd_same, show (some (2 : Int)) = some ((2 : Nat) : Int) from rfl, cut_n, List.map_take]
  generalize upd H5 n2a (.lst (cutV (ns.map V.str) none (some 2))) = H6 at s6 hn2 ⊢
  have l2 : (ns.take 2).length = 2 := by rw [List.length_take]; omega
  have nd2 : (ns.take 2).Nodup := nd.sublist (List.take_sublist _ _)
  have nm2 : ∀ n ∈ ns.take 2, Nm n := fun n h => nmo n (List.mem_of_mem_take h)
  refine ⟨_, rfl, _, rfl, n2a, d, ns.take 2, pairRs rs, u, k, rfl, uk, hn2, by omega, by omega, nd2, nm2, rw5.same s6, fun r hr => ?_, by omega, fun sw H7 s7 nsw hsw => ?_⟩
  · obtain ⟨o, c1, c2⟩ := okP r hr
    have := o.c0; have := o.d0
    exact ⟨by rw [l2]; exact o, by omega, by omega⟩
  have dl := deal_of (ns := ns.take 2) (rs := pairRs rs) (k := k) (by omega) (by omega) nd2 nm2 uk.k1 uk.k6 (fun r hr => by rw [l2]; exact okP r hr) (by omega)
  have s07 := (s5.trans s6).trans s7
  have pn7 := pn.same s07
  refine ⟨_, rfl, _, rfl, d, _, rfl, .inl (SqL.of (s7 _ _ (s6 _ _ hd5))), p, c, rs.length + 1, n, by rw [List.length_map, lbs, lp]; rfl, by omega, pn7, by omega, fun ro ms H8 pm8 hro nro k8 pn8 => ⟨_, _, rfl, ?_⟩⟩
  have ha8 := hsw.kn pn7.off (Keep.kn k8)
  have hnm8 := k8 _ _ np (s07 _ _ hnm)
  have lms := pm8.length_eq
  rw [List.length_range] at lms
  have ms0 : ms ≠ [] := fun e => by rw [e] at lms; simp at lms
  have pmP : ms.Perm (List.range (pairRs rs).length) := by rw [lp]; exact pm8
  have gd : ∀ pl, pl < 2 → (ns.take 2).getD pl "" = ns.getD pl "" := fun pl h => by
    rw [List.getD_eq_getElem?_getD, List.getD_eq_getElem?_getD, List.getElem?_take_of_lt h]
  have at_ : ∀ pl : Nat, pl < 2 → atI (ns.map V.str) (pl : Int) = some (.str (ns.getD pl "")) := fun pl h => atI_nat (by rw [List.getElem?_map, getD_at (show pl < ns.length by omega)]; rfl)
  have lh := dl.len
  have c0 : (0 : Int) < ((6 * k : Nat) : Int) := by have := uk.k1; omega
  have eabs : ∀ pl, pl < 2 → absZ (((pairRs rs).map (Row.up k)).map (mkH (ns.take 2))) ms (ns.getD pl "") = (apR (pairRs rs) ms pl).map (((6 * k : Nat) : Int) * ·) := fun pl h => by
    rw [← gd pl h]
    exact abs_ap dl.sw.nd dl.ok (by omega) pmP
  have ask : ∀ (pl : Nat), pl < 2 → ∀ {b' : Addr} {H' : Hp} {g : Addr → List Str → List Hnd → List Nat → Str → Prop}, Same H8 H' → SqA H' b' (kV ms) → g sw (ns.take 2) (((pairRs rs).map (Row.up k)).map (mkH (ns.take 2))) ms (ns.getD pl "") →
      AskW K C CH CS CW CB CN CL (.ref sw) (.ref b') (.str (ns.getD pl "")) H' E0 g := fun pl h {b' H' g} s' sq' hg => by
    have mem : ns.getD pl "" ∈ ns.take 2 := by rw [← gd pl h]; exact getD_in (by omega)
    have net0 : 0 ≤ net (((pairRs rs).map (Row.up k)).map (mkH (ns.take 2))) (ns.getD pl "") := by
      rw [← gd pl h, net_tot dl.sw.nd dl.ok (by omega) pmP, pair_net pmP h, Int.mul_zero]
      exact Int.le_refl _
    exact .inr ⟨sw, ns.take 2, _, rfl, ha8.same s', dl.sw, dl.sm, by omega, .inr ⟨b', ms, rfl, sq', by rw [lh]; exact pmP, .inl ⟨_, rfl, nm2 _ mem, mem, .inr ⟨net0, hg⟩⟩⟩⟩
  have e10 : apR (pairRs rs) ms 1 = negs (apR (pairRs rs) ms 0) := two_ap (two_all rs) ms
  have eqT : ∀ l : List Nat, PyData.eqv (.tuple ((nI l).map PyData.int)) (.tuple ((nI l).map PyData.int)) = true := fun l => by rw [eqv_tI, decide_eq_true rfl]
  have dpT : ∀ {H' : Hp} {a : Addr} {l : List Nat}, H' a = some (.tup (kV l)) → Dp K H' (.ref a) (.tuple ((nI l).map PyData.int)) := fun {H' a l} h => by
    rw [kV_eq] at h
    exact .tup (SqT.of h) (dps_I _)
  dsimp only
  show tSeq (tIfS _ _ _) _ _ [some (.ref p), some (.ref nm), some (.int u), some (.ref hw), some (.ref d), z4, z5, z6, z7, some (.int (restR rs)), some (.ref sw), some (.ref ro), none] H8
  refine ⟨_, rfl, _, rfl, _, rfl, nm, _, _, _, rfl, rfl, SqL.of hnm8, at_ 0 (by decide), _, _, _, rfl, ask 0 (by decide) (Same.refl H8) (.inl hro) fun t1 i H9 s9 hi h1 => ?_⟩
  refine ⟨_, rfl, _, rfl, _, rfl, nm, _, _, _, rfl, rfl, SqL.of (s9 _ _ hnm8), at_ 1 (by decide), _, _, _, rfl, ask 1 (by decide) s9 (.inl (s9 _ _ hro)) fun t2 j H10 s10 hj h2 => ?_⟩
  have li : LeastAt (apR (pairRs rs) ms 0) i := by
    rcases hi with ⟨z, _⟩ | hi
    · exact absurd z ms0
    · rw [eabs 0 (by decide)] at hi
      exact least_up c0 hi
  have lj : LeastAt (apR (pairRs rs) ms 0) j := by
    rcases hj with ⟨z, _⟩ | hj
    · exact absurd z ms0
    · rw [eabs 1 (by decide)] at hj
      have := most_up c0 hj
      rw [e10] at this
      exact most_neg this
  obtain rfl := least_uniq li lj
  have s810 := s9.trans s10
  refine ⟨_, _, dpT (s10 _ _ h1), dpT h2, sh_tI _, sh_tI _, false, by rw [eqT]; rfl, iteF ?_⟩
  -- and the other way about
  refine ⟨_, rfl, _, rfl, ?_⟩
  dsimp only [tNil]
  refine tup_any (.inl (s810 _ _ hro)) fun ta H11 s11 hta => ?_
  have h811 := s810.trans s11
  refine ⟨_, rfl, nm, _, _, _, rfl, rfl, SqL.of (h811 _ _ hnm8), at_ 0 (by decide), _, _, _, rfl, ask 0 (by decide) h811 (.inr hta) fun t3 i' H12 s12 hi' h3 => ?_⟩
  refine ⟨_, rfl, _, rfl, ?_⟩
  dsimp only [tNil]
  have h812 := h811.trans s12
  refine tup_any (.inl (h812 _ _ hro)) fun tb H13 s13 htb => ?_
  have h813 := h812.trans s13
  refine ⟨_, rfl, nm, _, _, _, rfl, rfl, SqL.of (h813 _ _ hnm8), at_ 1 (by decide), _, _, _, rfl, ask 1 (by decide) h813 (.inr htb) fun t4 j' H14 s14 hj' h4 => ?_⟩
  have li' : MostAt (apR (pairRs rs) ms 0) i' := by
    rcases hi' with ⟨z, _⟩ | hi'
    · exact absurd z ms0
    · rw [eabs 0 (by decide)] at hi'
      exact most_up c0 hi'
  have lj' : MostAt (apR (pairRs rs) ms 0) j' := by
    rcases hj' with ⟨z, _⟩ | hj'
    · exact absurd z ms0
    · rw [eabs 1 (by decide)] at hj'
      have := least_up c0 hj'
      rw [e10] at this
      exact least_neg this
  obtain rfl := most_uniq li' lj'
  refine ⟨_, _, dpT (s14 _ _ (s13 _ _ h3)), dpT h4, sh_tI _, sh_tI _, ?_⟩
  rw [eqT]
  exact q _ ((theKeep s07).trans (k8.trans (theKeep (h813.trans s14)))) ((pn8.same (h813.trans s14)).mono (by omega))
end
end K5

/-! k44: law. -/
namespace K5
open PySem PySem.Spec PyProof.Rows L2 LamX K1 K18 HT

abbrev nLaw44 : List Str := ["_law_script", "_law_vane_here", "_law_lap", "_law_names", "_law_unit", "_law_hands", "_law_swap", "_law_turn", "_law_row", "_law_place", "_law_name", "_law_at"]
theorem scLaw44 : FnScope nLaw44 ["_law_script"] (defScope sLaw) := ⟨rfl, rfl, rfl, by decide +kernel, rfl, by decide +kernel, by decide +kernel⟩
/-! ### the names drawn -/
theorem nms_sub {ns : List Str} (h : Nms ns) : ∃ bs, (bs = nmA ∨ bs = nmB) ∧ ns.Sublist bs ∧ 2 ≤ ns.length ∧ ns.length ≤ 6 := by
  obtain ⟨j, j2, j6, rfl | rfl⟩ := h
  · exact ⟨_, .inl rfl, List.take_sublist _ _, by rw [List.length_take]; show 2 ≤ min j 6; omega, by rw [List.length_take]; show min j 6 ≤ 6; omega⟩
  · exact ⟨_, .inr rfl, List.take_sublist _ _, by rw [List.length_take]; show 2 ≤ min j 6; omega, by rw [List.length_take]; show min j 6 ≤ 6; omega⟩
theorem nms_mem {ns : List Str} (h : Nms ns) {s : Str} (m : s ∈ ns) : s ∈ nmA ++ nmB := by
  obtain ⟨bs, hb, sb, _⟩ := nms_sub h
  rcases hb with rfl | rfl
  · exact List.mem_append_left _ (sb.subset m)
  · exact List.mem_append_right _ (sb.subset m)
theorem nms_nd {ns : List Str} (h : Nms ns) : ns.Nodup := by
  obtain ⟨bs, hb, sb, _⟩ := nms_sub h
  rcases hb with rfl | rfl
  · exact List.Nodup.sublist sb (by decide +kernel)
  · exact List.Nodup.sublist sb (by decide +kernel)
theorem nms_lay {ns : List Str} (h : Nms ns) {s : Str} (m : s ∈ ns) : PyData.canLay0 (.str s) = true :=
  List.all_eq_true.mp (show (nmA ++ nmB).all (fun s => PyData.canLay0 (.str s)) = true by decide +kernel) s (nms_mem h m)
theorem nms_zz {ns : List Str} (h : Nms ns) : ("zz" : Str) ∉ ns := fun m => absurd (nms_mem h m) (by decide +kernel)
theorem nms_em {ns : List Str} (h : Nms ns) : ("" : Str) ∉ ns := fun m => absurd (nms_mem h m) (by decide +kernel)
theorem unit_of {u : Nat} (h : 1 ≤ u) (l : u ≤ 3) : ∃ k, Unit6 u k := by
  have : u = 1 ∨ u = 2 ∨ u = 3 := by omega
  rcases this with rfl | rfl | rfl
  · exact ⟨6, rfl, by decide, by decide, by decide⟩
  · exact ⟨3, rfl, by decide, by decide, by decide⟩
  · exact ⟨2, rfl, by decide, by decide, by decide⟩
def nmC (s : Str) : Bool := (((s.cps.toList[0]?).map isL == some true) && s.cps.toList.all (fun c => isL c || isD c)) && (decide (1 ≤ s.length) && decide (s.length ≤ 12))
theorem nm_chk {s : Str} (h : nmC s = true) : Nm s := by
  unfold nmC at h
  rw [Bool.and_eq_true, Bool.and_eq_true, Bool.and_eq_true, decide_eq_true_iff, decide_eq_true_iff] at h
  obtain ⟨⟨h1, h2⟩, h3, h4⟩ := h
  refine ⟨h3, h4, ?_, fun c hc => (Bool.or_eq_true ..).mp (List.all_eq_true.mp h2 c hc)⟩
  cases e : s.cps.toList[0]? with
  | none => rw [e] at h1; simp at h1
  | some c => rw [e] at h1; exact ⟨c, rfl, by simpa using h1⟩
theorem nms_nm {ns : List Str} (h : Nms ns) {s : Str} (m : s ∈ ns) : Nm s := nm_chk (List.all_eq_true.mp (show (nmA ++ nmB).all nmC = true by decide +kernel) s (nms_mem h m))
def spLaw (K : PySem.W.Frag) (T : List (Addr × Str)) : Sp := fun vs H Q _ => ∃ (a : Addr) (ns : List Int), vs = [.ref a] ∧ SqL K H a (ns.map V.int) ∧ ns.length ≤ 63 ∧ Tabs T H ∧ ∀ H', Q (.bl true) H'
structure LawH44 (P : Program) (w : World) (K : PySem.W.Frag) (mg : Str → Option Value) (base : Heap) (T : List (Addr × Str)) (C CH CS CB CU : Addr) : Prop where
  pen : Has P w K mg base CX0 1 "_law_vane" ["_law_script"] (spPen K)
  drawn : Has P w K mg base CX0 3 "_law_drawn" ["_law_vane_here"] spDrawn
  made : HasMade P w K mg base C CH CS
  order : HasOrder P w K mg base
  blow : HasBlow P w K mg base
  along : HasLAlong P w K mg base
  strR : HasQ P w K mg base 12 "_law_stranger_right" ["_law_swap", "_law_hands", "_law_row", "_law_name", "_law_place"] (spStrR C CH CS)
  loses : HasQ P w K mg base 15 "_law_loses" ["_law_swap", "_law_row", "_law_name"] (spLoses T C CH CS)
  beg : HasBegunAt P w K mg base CB CU
  lbeg : HasLBegun P w K mg base
  ref : HasQ P w K mg base 15 "_law_refused_right" ["_law_vane_here", "_law_swap", "_law_row"] (spRefused T C CH CS)
  pair : Has P w K mg base CX0 12 "_law_pair_right" ["_law_vane_here", "_law_names", "_law_unit", "_law_hands"] spPair
section
variable {P : Program} {w : World} {K : PySem.W.Frag} {mg : Str → Option Value} {base : Heap} {f C CH CS CB CU : Addr} {fd : FuncData}
theorem ok_law44 {T : List (Addr × Str)} (G : Glob mg) (L : LawH44 P w K mg base T C CH CS CB CU) (F : DefAt K "law" "law" sLaw f fd) : FnG P w K mg base CX0 16 f fd ["_law_script"] (spLaw K T) := by
  obtain ⟨f1, fd1, m1, k1, b1, G1⟩ := L.pen.h
  obtain ⟨f2, fd2, m2, k2, b2, G2⟩ := L.drawn.h
  obtain ⟨f3, fd3, m3, k3, b3, G3⟩ := L.made.h
  obtain ⟨f4, fd4, m4, k4, b4, G4⟩ := L.order.h
  obtain ⟨f5, fd5, m5, k5, b5, G5⟩ := L.blow.h
  obtain ⟨f6, fd6, m6, k6, b6, G6⟩ := L.along.h
  obtain ⟨f7, fd7, m7, k7, b7, G7⟩ := L.strR.h
  obtain ⟨f8, fd8, m8, k8, b8, G8⟩ := L.loses.h
  obtain ⟨f9, fd9, m9, k9, b9, G9⟩ := L.beg.h
  obtain ⟨fA, fdA, mA, kA, bA, GA⟩ := L.lbeg.h
  obtain ⟨fB, fdB, mB, kB, bB, GB⟩ := L.ref.h
  obtain ⟨fC, fdC, mC, kC, bC, GC⟩ := L.pair.h
  refine okG F scLaw44 (fun vs H Q E ⟨a, ns, e, _⟩ => by rw [e]; rfl) (fun cdv A outer s H vs Q E gd hr ⟨a, is, e, sq, hl, tb, q⟩ => ?_)
  subst e
  have gd2 : (A.deeper (envOfC "law" (defScope sLaw) s.heap.objs.size f cdv)).guards = some [] := by show A.guards = _; exact gd
  have hu64 : (A.deeper (envOfC "law" (defScope sLaw) s.heap.objs.size f cdv)).units + 64 < cLine := by have := hr.un; omega
  have r1 := hr.mono (show 1 ≤ 15 by decide)
  have r2 := hr.mono (show 2 ≤ 15 by decide)
  have r3 := hr.mono (show 3 ≤ 15 by decide)
  have r4 := hr.mono (show 4 ≤ 15 by decide)
  have r10 := hr.mono (show 10 ≤ 15 by decide)
  have r12 := hr.mono (show 12 ≤ 15 by decide)
  refine ⟨_, pss_cons (ps_set (i := 1) scLaw44.nd rfl (Or.inl rfl) (pe_call G1 r1 rfl m1 k1 b1 .nil pass0 (pa_cons (pv 0) pa_nil)))
    (pss_cons (ps_for PassesOwn.never rfl (pi_range1 (by rfl) G.range (pa_cons pe_int pa_nil)) (pg_name (i := 2) scLaw44.nd rfl (Or.inl rfl))
      (pss_cons (ps_asg (pe_call G2 r3 rfl m2 k2 b2 .nil pass0 (pa_cons (pv 1) pa_nil)) (pg_tup (by rfl) (pgs_cons (pg_name (i := 3) scLaw44.nd rfl (Or.inl rfl)) (pgs_cons (pg_name (i := 4) scLaw44.nd rfl (Or.inl rfl)) (pgs_cons (pg_name (i := 5) scLaw44.nd rfl (Or.inl rfl)) pgs_nil)))))
      (pss_cons (ps_set (i := 6) scLaw44.nd rfl (Or.inl rfl) (pe_call G3 r10 rfl m3 k3 b3 .nil pass0 (pa_cons (pv 3) (pa_cons (pv 4) (pa_cons (pv 5) pa_nil)))))
      (pss_cons (ps_for PassesOwn.never rfl (pi_range1 (by rfl) G.range (pa_cons pe_int pa_nil)) (pg_name (i := 7) scLaw44.nd rfl (Or.inl rfl))
        (pss_cons (ps_set (i := 8) scLaw44.nd rfl (Or.inr rfl) (pe_call G4 r2 rfl m4 k4 b4 .nil pass0 (pa_cons (pv 1) (pa_cons (pe_callB (r := rLenA K) (call_lenA rfl) (by rfl) G.len PySem.boot_len (pa_cons (pv 5) pa_nil)) pa_nil))))
        (pss_cons (ps_set (i := 8) scLaw44.nd rfl (Or.inr rfl) (pe_ifExp (pt_cmpR op_eq (pe_call G5 r1 rfl m5 k5 b5 .nil pass0 (pa_cons (pv 1) (pa_cons pe_int pa_nil))) pe_int (nomark _)) (pv 8) (pe_callTy (r := rTupK K) (call_tupK rfl) (by rfl) G.tup (by decide +kernel) (pa_cons (pv 8) pa_nil))))
        (pss_cons (ps_for PassesOwn.never rfl (pi_enum (by rfl) G.enum (pa_cons (pv 3) pa_nil)) (pg_tup (by rfl) (pgs_cons (pg_name (i := 9) scLaw44.nd rfl (Or.inl rfl)) (pgs_cons (pg_name (i := 10) scLaw44.nd rfl (Or.inl rfl)) pgs_nil)))
          (pss_one (ps_if (pt_cmpR op_ge (pe_ix (r := rIxL K) ix_list (pe_call G6 r1 rfl m6 k6 b6 .nil pass0 (pa_cons (pv 5) (pa_cons (pv 8) (pa_cons (pv 9) pa_nil)))) (pe_un un_neg pe_int) (fun _ _ => rfl)) pe_int (nomark _))
            (pss_one (ps_if (pt_not (pt_val (pe_callG G7 gd2 r12 rfl m7 k7 b7 (pa_cons (pv 6) (pa_cons (pv 5) (pa_cons (pv 8) (pa_cons (pv 10) (pa_cons (pv 9) pa_nil)))))))) pss_dead pss_nil))
            (pss_one (ps_if (pt_not (pt_val (pe_callG G8 gd2 hr rfl m8 k8 b8 (pa_cons (pv 6) (pa_cons (pv 8) (pa_cons (pv 10) pa_nil)))))) pss_dead pss_nil)))))
        (pss_one (ps_if (pt_cmpR (op_neD hu64) (pe_lc (own := [("_law_at", 11)]) (g := gName 11) rfl scLaw44.nd (pi_range1 (by rfl) G.range (pa_cons (pe_callB (r := rLenA K) (call_lenA rfl) (by rfl) G.len PySem.boot_len (pa_cons (pv 5) pa_nil)) pa_nil)) (blkOk_by (N := nLaw44) (sc := defScope sLaw) (by decide +kernel))
            (fun _ _ _ _ _ => pg_name (i := 11) scLaw44.nd rfl (Or.inl rfl))
            (fun _ _ _ _ _ => pts_one (pt_cmpR (r := rNeD K) (op_neD hu64) (pe_call (E := E0) G9 r4 rfl m9 k9 b9 .nil passL (pa_cons (pv 8) (pa_cons (pv 11) pa_nil))) (pe_call GA r1 rfl mA kA bA .nil pass0 (pa_cons (pv 8) (pa_cons (pv 11) pa_nil))) (nomark _)))
            (fun _ _ _ _ _ => pv 11)) (pe_lst pa_nil) (nomark _)) pss_dead pss_nil))))))
      (pss_one (ps_if (PW.pt (pw_or (pt_not (pt_val (pe_callG GB gd2 hr rfl mB kB bB (pa_cons (pv 1) (pa_cons (pv 6) (pa_cons (pe_listRg rfl (by rfl) G.lst (prg_1 (by rfl) G.range (pe_callB (r := rLenA K) (call_lenA rfl) (by rfl) G.len PySem.boot_len (pa_cons (pv 5) pa_nil)))) pa_nil))))))
          (pw_or1 (pt_not (pt_val (pe_call GC r12 rfl mC kC bC .nil pass0 (pa_cons (pv 1) (pa_cons (pv 3) (pa_cons (pv 4) (pa_cons (pv 5) pa_nil)))))))))) pss_dead pss_nil))))))
    (pss_one (ps_ret pe_bl))), ?_⟩
  have sz : sizeLine = 16777216 := sizeLine_eq
  refine ⟨_, rfl, a, is, rfl, sq, hl, fun p c H1 s1 hp hc pn1 => ?_⟩
  have tb1 : Tabs T H1 := tabs_same s1 tb
  refine ⟨2, rfl, by omega, by omega, ?_⟩
  refine for_range (lo := 0) (n := (2 : Int).toNat) (fun i σ H2 => ∃ z2 z3 z4 z5 z6 z7 z8 z9 z10 z11, σ = [some (V.ref a), some (.ref p), z2, z3, z4, z5, z6, z7, z8, z9, z10, z11] ∧ Tabs T H2 ∧ Pen H2 p c (100 * i))
    ⟨none, none, none, none, none, none, none, none, none, none, rfl, tb1, pn1⟩ ?_ ?_
  · rintro i σ H2 hi ⟨z2, z3, z4, z5, z6, z7, z8, z9, z10, z11, rfl, tb2, pn2⟩
    have hi2 : i < 2 := hi
    refine ⟨_, rfl, p, c, _, rfl, pn2, by omega, fun t nm hw ns u rs H3 k3 pn3 ht hnm np hwp nms u1 u3 rwl ok l6 => ?_⟩
    obtain ⟨k, uk⟩ := unit_of u1 u3
    obtain ⟨_, _, _, n2, n6⟩ := nms_sub nms
    have nd := nms_nd nms
    have nmo : ∀ n ∈ ns, Nm n := fun n h => nms_nm nms h
    have tb3 := pn2.tabs k3 tb2
    have dl : Deal ns rs k ((rs.map (Row.up k)).map (mkH ns)) := deal_of n2 n6 nd nmo uk.k1 uk.k6 (fun r hr => ⟨(ok r hr).1, by have := (ok r hr).2.1; omega, by have := (ok r hr).2.2; omega⟩) (by omega)
    refine ⟨t, _, rfl, SqT.of ht, rfl, _, _, rfl, _, _, rfl, _, _, rfl, rfl, ?_⟩
    refine ⟨_, rfl, _, rfl, _, rfl, nm, hw, ns, rs, u, k, rfl, uk, hnm, n2, n6, nd, nmo, rwl, fun r hr => ?_, by omega, fun sw H4 s4 nsw hsw => ?_⟩
    · obtain ⟨o, c1, d1⟩ := ok r hr
      have := o.c0; have := o.d0
      exact ⟨o, by omega, by omega⟩
    have lh := dl.len
    generalize (rs.map (Row.up k)).map (mkH ns) = hs at dl hsw lh ⊢
    have tb4 := tabs_same s4 tb3
    have pn4 := pn3.same s4
    have off4 := pn4.off
    have hnm4 := s4 _ _ hnm
    have rw4 := rwl.same s4
    refine ⟨3, rfl, by omega, by omega, ?_⟩
    refine for_range (lo := 0) (n := (3 : Int).toNat) (fun j σ H5 => ∃ y2 z7 z8 z9 z10 z11, σ = [some (V.ref a), some (.ref p), y2, some (.ref nm), some (.int u), some (.ref hw), some (.ref sw), z7, z8, z9, z10, z11] ∧ Tabs T H5 ∧ Pen H5 p c (100 * i + 60 + 7 * j) ∧ KeepN p H4 H5)
      ⟨_, _, _, _, _, _, rfl, tb4, pn4, Same.kn (Same.refl _)⟩ ?_ ?_
    · rintro j σ H5 hj ⟨y2, y7, y8, y9, y10, y11, rfl, tb5, pn5, k5'⟩
      have hj3 : j < 3 := hj
      have hnm5 := k5' _ _ np hnm4 (fun _ z => nomatch z)
      have rw5 := rw4.kn off4 hwp k5'
      have sw5 := hsw.kn off4 k5'
      obtain ⟨has, hhw5, al5⟩ := id rw5
      refine ⟨_, rfl, _, rfl, hw, _, rfl, .inl (SqL.of hhw5), p, c, rs.length, _, by rw [List.length_map, al5.1]; rfl, by omega, pn5, by omega, fun d ms H6 pm hd nhd k6 pn6 => ?_⟩
      have dp : d ≠ p := (pn5.ne nhd).1.symm
      have tb6 := pn5.tabs k6 tb5
      dsimp only [gName]
      show tSeq (tAsg _ _) _ _ [some (V.ref a), some (.ref p), y2, some (.ref nm), some (.int u), some (.ref hw), some (.ref sw), some (.int (0 + (j : Int))), some (.ref d), y9, y10, y11] H6
      refine seq_any (R := fun v H' => ∃ b, v = .ref b ∧ b ≠ p ∧ Keep p H6 H' ∧ Pen H' p c (100 * i + 60 + 7 * (j + 1)) ∧ SqA H' b (kV ms)) (fun Q2 kq => ?_) ?_
      · refine ⟨_, rfl, p, c, 2, _, rfl, pn6, by omega, by decide, by decide, fun r H7 r0 r1 k7 pn7 => ?_⟩
        have hd7 := k7 _ _ dp hd
        have pn7' : Pen H7 p c (100 * i + 60 + 7 * (j + 1)) := pn7.mono (by omega)
        refine ⟨rfl, decide (V.int r = V.int 0), rfl, ?_⟩
        show (if decide (V.int r = V.int 0) = true then _ else _)
        by_cases e : V.int r = V.int 0
        · rw [if_pos (decide_eq_true e)]
          exact ⟨_, rfl, kq _ _ ⟨d, rfl, dp, k7, pn7', .inl hd7⟩⟩
        · rw [if_neg (fun z => e (of_decide_eq_true z))]
          refine ⟨_, rfl, ?_⟩
          dsimp only [tNil]
          refine tup_any (.inl hd7) fun tt H8 s8 htt => kq _ _ ⟨tt, rfl, fun z => ?_, k7.trans (theKeep s8), pn7'.same s8, .inr htt⟩
          obtain ⟨_, _, _, x, _⟩ := pn7.same s8
          rw [z, x] at htt
          cases htt
      rintro _ H7 ⟨b, rfl, bp, k7, pn7, sq7⟩
      have k57 := k6.trans k7
      have kn7 : KeepN p H4 H7 := k5'.trans (Keep.kn k57)
      have hnm7 := kn7 _ _ np hnm4 (fun _ z => nomatch z)
      have rw7 := rw4.kn off4 hwp kn7
      have sw7 := hsw.kn off4 kn7
      have tb7 := pn5.tabs k57 tb5
      have lk := pm.length_eq
      rw [List.length_range] at lk
      have ltk : ∀ x ∈ ms, x < rs.length := fun x hx => List.mem_range.mp (pm.mem_iff.mp hx)
      show tSeq _ _ _ [some (V.ref a), some (.ref p), y2, some (.ref nm), some (.int u), some (.ref hw), some (.ref sw), some (.int (0 + (j : Int))), some (.ref b), y9, y10, y11] H7
      -- each name
      refine seq_st (fun σ' H' => (∃ z9 z10, σ' = [some (V.ref a), some (.ref p), y2, some (.ref nm), some (.int u), some (.ref hw), some (.ref sw), some (.int (0 + (j : Int))), some (.ref b), z9, z10, y11]) ∧ ExtN H7 H' ∧ Tabs T H') (fun N kn => ?_) ?_
      · refine ⟨_, rfl, nm, _, rfl, SqL.of hnm7, ?_⟩
        refine for_it (walk_enum (xs := ns.map V.str)) (fun m σ H8 => (∃ z9 z10, σ = [some (V.ref a), some (.ref p), y2, some (.ref nm), some (.int u), some (.ref hw), some (.ref sw), some (.int (0 + (j : Int))), some (.ref b), z9, z10, y11]) ∧ ExtN H7 H8 ∧ Tabs T H8)
          ⟨⟨_, _, rfl⟩, ExtN.refl _, tb7⟩ (fun m σ H8 _ ⟨_, x8, _⟩ => SqL.of (x8 _ _ hnm7 (fun _ z => nomatch z))) ?_ ?_
        · rintro m v σ H8 H9 hm ⟨⟨z9, z10, rfl⟩, x8, tb8⟩ ⟨T1, x, y, rfl, nT, rfl, ex, ey⟩
          cases ex
          obtain ⟨nn, en, rfl⟩ := map_at ey
          have lm := (List.getElem?_eq_some_iff.mp en).1
          have s9 := upd_new (o := .tup [.int (m : Nat), .str nn]) nT
          have hT : upd H8 T1 (.tup [.int (m : Nat), .str nn]) T1 = some (.tup [.int (m : Nat), .str nn]) := upd_same
          generalize upd H8 T1 (.tup [.int (m : Nat), .str nn]) = H9 at s9 hT ⊢
          have x9 := x8.trans (Same.extN s9)
          have tb9 := tabs_same s9 tb8
          have kn9 := kn7.trans (ExtN.kn x9)
          have rw9 := rw4.kn off4 hwp kn9
          have sw9 := hsw.kn off4 kn9
          have sq9 := SqA.extN x9 sq7
          refine ⟨T1, _, rfl, SqT.of hT, rfl, _, _, rfl, _, _, rfl, rfl, ?_⟩
          have last : atI ((totsR rs ms m).map V.int) (-1) = some (.int (totR rs ms m ms.length)) := by
            have lm : ((totsR rs ms m).map V.int).length = ms.length + 1 := by unfold totsR; rw [List.length_map, List.length_map, List.length_range]
            unfold atI ixN
            rw [lm, if_neg (by decide), if_pos (by omega)]
            show ((totsR rs ms m).map V.int)[(-1 + ((ms.length + 1 : Nat) : Int)).toNat]? = _
            rw [show (-1 + ((ms.length + 1 : Nat) : Int)).toNat = ms.length by omega, List.getElem?_map]
            unfold totsR
            rw [List.getElem?_map, List.getElem?_range (by omega)]
            rfl
          have eg : ns.getD m "" = nn := by rw [List.getD_eq_getElem?_getD, en]; rfl
          have mem : nn ∈ ns := List.mem_of_getElem? en
          refine ⟨_, rfl, _, rfl, _, rfl, hw, b, rs, ms, m, rfl, rw9, sq9, ltk, by omega, fun d1 K1 w1 nd1 hd1 => ?_⟩
          refine ⟨1, rfl, d1, _, _, _, rfl, rfl, SqL.of hd1, last, ?_⟩
          have xK := x9.trans (Same.extN w1)
          have tbK := tabs_same w1 tb9
          have enet : net hs nn = (k : Int) * totR rs ms m ms.length := by rw [← eg, dl.e]; exact net_tot dl.sw.nd dl.ok lm pm
          by_cases e : 0 ≤ totR rs ms m ms.length
          · refine ⟨_, _, rfl, rfl, true, congrArg V.bl (decide_eq_true e), iteT ?_⟩
            refine ⟨_, rfl, _, rfl, _, rfl, _, rfl, _, rfl, sw, hw, b, ns, rs, k, hs, ms, m, by rw [eg]; rfl, sw9.same w1, dl, rw9.same w1, sq9.same w1, pm, lm, e, fun H' s' => ⟨true, rfl, iteF ?_⟩⟩
            exact ⟨⟨_, _, rfl⟩, xK.trans (Same.extN s'), tabs_same s' tbK⟩
          · refine ⟨_, _, rfl, rfl, false, congrArg V.bl (decide_eq_false e), iteF ?_⟩
            refine ⟨_, rfl, _, rfl, _, rfl, sw, b, ns, hs, ms, nn, rfl, tbK, sw9.same w1, dl.sw, dl.sm, by omega, sq9.same w1, by rw [lh]; exact pm, mem, ?_, nms_lay nms mem, fun H' x' tb' => ⟨true, rfl, iteF ?_⟩⟩
            · rw [enet]
              exact Int.mul_neg_of_pos_of_neg (by have := uk.k1; omega) (by omega)
            · exact ⟨⟨_, _, rfl⟩, xK.trans x', tb'⟩
        · rintro σ H8 ⟨z, x8, tb8⟩
          exact kn _ _ ⟨z, x8, tb8⟩
      rintro _ H8 ⟨⟨z9, z10, rfl⟩, x8, tb8⟩
      -- begun at each place
      have kn8 := kn7.trans (ExtN.kn x8)
      have rw8 := rw4.kn off4 hwp kn8
      have sq8 := SqA.extN x8 sq7
      obtain ⟨has8, hhw8, al8⟩ := id rw8
      have pn8 := pn7.extN x8
      have lms : (ms.length : Int) ≤ 6 := by omega
      refine ⟨_, rfl, hw, _, rfl, .inl (SqL.of hhw8), ?_⟩
      rw [List.length_map, al8.1]
      refine ⟨(rs.length : Int), rfl, by omega, by omega, fun D hD => ?_⟩
      have sD := upd_new (o := .lst []) hD
      refine lc_range (lo := 0) (n := ((rs.length : Nat) : Int).toNat) (fun m H9 => Same H8 H9 ∧ H9 D = some (.lst [])) ⟨sD, upd_same⟩ ?_ ?_
      · rintro m H9 hm ⟨s9, hD9⟩
        have hm : m < rs.length := by omega
        have dpT : ∀ {H' : Hp} {a : Addr} {l : List Nat}, H' a = some (.tup (kV l)) → Dp K H' (.ref a) (.tuple ((nI l).map PyData.int)) := fun {H' a l} h => by
          rw [kV_eq] at h
          exact .tup (SqT.of h) (dps_I _)
        have em : (0 + (m : Int)) = ((m : Nat) : Int) := by omega
        refine ⟨rfl, ?_⟩
        rw [em]
        have sq9 := sq8.same s9
        refine ⟨_, rfl, _, rfl, .ref b, .int m, rfl, .inr ⟨b, ms, rfl, sq9, by rw [lk]; exact pm, by omega, .inr ⟨m, rfl, by omega, fun t1 H10 s10 h1 => ?_⟩⟩⟩
        refine ⟨_, rfl, _, rfl, b, ms, m, rfl, sq9.same s10, by omega, by omega, fun t2 H11 s11 h2 => ?_⟩
        refine ⟨_, _, dpT (s11 _ _ h1), dpT h2, sh_tI _, sh_tI _, false, ?_, ?_⟩
        · rw [eqv_tI, decide_eq_true rfl]; rfl
        have s911 := s10.trans s11
        exact ⟨s9.trans s911, s911 _ _ hD9⟩
      rintro H9 ⟨s9, hD9⟩
      refine ⟨(by show 0 ≤ sizeLine; omega), fun e0 ne0 => ?_⟩
      have s10 := upd_new (o := .lst []) ne0
      have he0 : upd H9 e0 (.lst []) e0 = some (.lst []) := upd_same
      generalize upd H9 e0 (.lst []) = H10 at s10 he0 ⊢
      refine ⟨.list [], .list [], .lst (SqL.of (s10 _ _ hD9)) .nil, .lst (SqL.of he0) .nil, sh_lI [], sh_lI [], false, by simp [PyData.eqv, PyData.eqvAll], iteF ?_⟩
      have s810 := s9.trans s10
      exact ⟨_, _, _, _, _, _, rfl, tabs_same s810 tb8, pn8.same s810, kn8.trans (Same.kn s810)⟩
    rintro σ H5 ⟨y2, y7, y8, y9, y10, y11, rfl, tb5, pn5, k5'⟩
    replace pn5 : Pen H5 p c (100 * i + 81) := pn5
    have hnm5 := k5' _ _ np hnm4 (fun _ z => nomatch z)
    have rw5 := rw4.kn off4 hwp k5'
    have sw5 := hsw.kn off4 k5'
    obtain ⟨has, hhw5, al5⟩ := id rw5
    refine ⟨_, rfl, _, rfl, _, rfl, hw, _, rfl, .inl (SqL.of hhw5), ?_⟩
    rw [List.length_map, al5.1]
    refine ⟨(rs.length : Int), rfl, RgOk.of_le (by decide) (by omega) (by decide) (by omega), fun l nl => ?_⟩
    have s6 := upd_new (o := .lst (rgV 0 ((rs.length : Nat) : Int))) nl
    have hl6 : upd H5 l (.lst (rgV 0 ((rs.length : Nat) : Int))) l = some (.lst (kV (List.range rs.length))) := by rw [upd_same, rg0]
    have lp := (pn5.ne nl).1.symm
    have pn6 := pn5.same s6
    generalize upd H5 l (.lst (rgV 0 ((rs.length : Nat) : Int))) = H6 at s6 hl6 pn6 ⊢
    have l6' := hl6
    rw [← lh] at l6'
    refine ⟨p, c, sw, l, ns, hs, _, rfl, tabs_same s6 tb5, pn6, by omega, sw5.same s6, dl.sw, dl.sm, by omega, nms_zz nms, nms_em nms, lp, l6', fun H7 k7 pn7 tb7 => ⟨true, rfl, iteF ?_⟩⟩
    have off6 := pn6.off
    have hnm7 := k7 _ _ np (s6 _ _ hnm5) (fun _ z => nomatch z)
    have rw7 := (rw5.same s6).kn off6 hwp k7
    refine ⟨_, rfl, _, rfl, _, rfl, _, rfl, p, c, nm, hw, ns, rs, u, k, _, rfl, pn7, by omega, uk, hnm7, np, hwp, n2, n6, nd, nmo, rw7, fun r hr => ⟨(ok r hr).1, (ok r hr).2.1⟩, l6, fun H8 k8 pn8 => ⟨true, rfl, iteF ?_⟩⟩
    exact ⟨_, _, _, _, _, _, _, _, _, _, rfl, pn7.tabs k8 tb7, pn8.mono (by omega)⟩
  · rintro σ H2 ⟨z2, z3, z4, z5, z6, z7, z8, z9, z10, z11, rfl, tb2, pn2⟩
    exact q _
end
end K5

/-! The facts of the opened module, and what they give. -/
namespace K5
open PySem PySem.Spec PyProof.Rows L2 LamX K1 K18

abbrev hC (K : PySem.W.Frag) : Addr := He.ga K "HandOver"
theorem propB_ok {K : PySem.W.Frag} {C : Addr} {m : Str} (h : propB K C m = true) : PropOf K C m (He.ma K C m) (gP K C m) := by
  obtain ⟨h1, h⟩ := He.ba h
  obtain ⟨h2, h⟩ := He.ba h
  obtain ⟨h3, h4⟩ := He.ba h
  refine ⟨He.eqO_ok h1, He.eqO_ok h2, of_decide_eq_true h3, ?_⟩
  unfold gP
  split at h4
  · rename_i f r e
    exact ⟨r, by rw [e]⟩
  · cases h4
theorem ownB_ok {K : PySem.W.Frag} {x m : Str} (h : ownB K x m = true) : OwnM K (He.ga K x) m (He.ma K (He.ga K x) m) := ⟨He.eqO_ok (He.ba h).1, (He.ba h).2⟩
theorem cvB_ok {K : PySem.W.Frag} {f : Str} {n : Int} (h : cvB K f n = true) : ∃ u, ClX.CVal K (sC K) (.type "type") f (.int n) u := by
  unfold cvB at h
  split at h
  · rename_i j t e
    have h := of_decide_eq_true h
    subst h
    exact ⟨_, e, ⟨t, rfl⟩⟩
  · cases h
structure ClsFa (K : PySem.W.Frag) (x : Str) : Prop where
  f : ClsF K (He.ga K x)
  mkc : Mk K (He.ga K x) (He.ma K (He.ga K x) "__init__")
  nf : PySem.W.notFirst K (He.ga K x) (.ref (He.ga K x)) = true
  ne : PySem.W.findIn K (.ref (He.ga K x)) "__ne__" = some (some (.builtin "object.__ne__"))
  ob : PySem.W.subIn K (.ref (He.ga K x)) (.type "object") = some true
theorem clsB_ok {K : PySem.W.Frag} {x : Str} (hn : PySem.W.specialIn K (.builtin "object.__class__") "__get__" = some (some (.builtin "getset_descriptor.__get__"))) (ht : PySem.W.takesIn K (.builtin "object.__class__") = some true) (h : clsB K x = true) : ClsFa K x := by
  obtain ⟨h1, h⟩ := He.ba h
  obtain ⟨h2, h⟩ := He.ba h
  obtain ⟨h3, h⟩ := He.ba h
  obtain ⟨h4, h⟩ := He.ba h
  obtain ⟨h5, h⟩ := He.ba h
  obtain ⟨h6, h⟩ := He.ba h
  obtain ⟨h7, h8⟩ := He.ba h
  exact ⟨⟨He.cls_ok h1, He.eqO_ok h3, hn, ht, of_decide_eq_true h4, of_decide_eq_true h5⟩, He.mkr_ok h2, h6, He.eqO_ok h7, of_decide_eq_true h8⟩
theorem mroB_ok {C : Addr} {l : List Value} (h : mroB C l = true) : ∃ bm, l = .ref C :: bm ∧ PySem.HandSPX.refsVE bm = true := by
  unfold mroB at h
  split at h
  · rename_i c bm
    obtain ⟨h1, h2⟩ := He.ba h
    exact ⟨bm, by rw [of_decide_eq_true h1], h2⟩
  · cases h
theorem oexB_ok {K : PySem.W.Frag} {C : Addr} (h : oexB K C = true) :
    ∃ nm q N bs bm sn sub ab col dd k0 k1 k2 k3 k5, K.lookup C = some (excClassObj nm q C N bs bm true sn sub ab col dd k0 k1 k2 k3 k5 "ValueError.__new__") ∧ PySem.HandSPX.refsVE bm = true := by
  unfold oexB at h
  cases q : K.lookup C with
  | none => rw [q] at h; cases h
  | some o =>
    obtain ⟨oc, od, dt, sl⟩ := o
    rw [q] at h
    cases oc with
    | type t =>
      cases dt with
      | cls cd =>
        have h' : (t == "type" && ((match sl.toList with
          | [_, _, _, _, some (.builtin n), _] => n == "ValueError.__new__"
          | _ => false) && (!cd.hasDel && (cd.hasDict && mroB C cd.mro)))) = true := h
        obtain ⟨a1, h'⟩ := He.ba h'
        obtain ⟨a2, h'⟩ := He.ba h'
        obtain ⟨a3, h'⟩ := He.ba h'
        obtain ⟨a4, a5⟩ := He.ba h'
        have a1 := eq_of_beq a1
        subst a1
        split at a2
        · rename_i k0 k1 k2 k3 n k5 hs
          have a2 := eq_of_beq a2
          subst a2
          have hsl : sl = #[k0, k1, k2, k3, some (.builtin "ValueError.__new__"), k5] := by
            obtain ⟨l⟩ := sl
            simp only at hs
            rw [hs]
          subst hsl
          obtain ⟨nm, bs, mro, ns, qn, hd, sn, sub, ab, col, del⟩ := cd
          simp only [Bool.not_eq_true'] at a3 a4
          obtain ⟨bm, e5, a6⟩ := mroB_ok a5
          simp only at e5
          subst a3 a4 e5
          exact ⟨nm, qn, ns, bs, bm, sn, sub, ab, col, od, k0, k1, k2, k3, k5, rfl, a6⟩
        · cases a2
      | _ => cases h
    | _ => cases h
structure ErrFa (K : PySem.W.Frag) (x : Str) (fs : List Str) : Prop where
  o : OexC K (He.ga K x)
  e : ExcC K (He.ga K x)
  i : PySem.W.findIn K (.ref (He.ga K x)) "__init__" = some (some (.ref (He.ma K (He.ga K x) "__init__")))
  it : PySem.W.typeIn K (.ref (He.ma K (He.ga K x) "__init__")) = some (.type "function")
  le : PySem.W.exmOne K (.ref (He.ga K x)) (.ref (He.ga K "LastError")) = some true
  nf : ∀ f ∈ fs, PySem.W.findIn K (.ref (He.ga K x)) f = some none
theorem errB_ok {K : PySem.W.Frag} {x : Str} {fs : List Str} (hn : PySem.W.specialIn K (.builtin "object.__class__") "__get__" = some (some (.builtin "getset_descriptor.__get__"))) (ht : PySem.W.takesIn K (.builtin "object.__class__") = some true) (h : errB K x fs = true) : ErrFa K x fs := by
  obtain ⟨h1, h⟩ := He.ba h
  obtain ⟨h2, h⟩ := He.ba h
  obtain ⟨h3, h⟩ := He.ba h
  obtain ⟨h4, h⟩ := He.ba h
  obtain ⟨h5, h⟩ := He.ba h
  obtain ⟨h6, h⟩ := He.ba h
  obtain ⟨h7, h⟩ := He.ba h
  obtain ⟨h8, h⟩ := He.ba h
  obtain ⟨h9, h⟩ := He.ba h
  obtain ⟨h10, h11⟩ := He.ba h
  have xf := xfB_ok h5
  exact ⟨⟨oexB_ok h1, He.eqO_ok h2, xf.exC, of_decide_eq_true h3, h4⟩, ⟨xf.ga, xf.gg, xf.exC, xf.hdC, He.eqO_ok h8, hn, ht, of_decide_eq_true h9⟩, He.eqO_ok h6, of_decide_eq_true h7, of_decide_eq_true h10, fun f hf => He.eqO_ok (List.all_eq_true.mp h11 f hf)⟩
/-- all that is asked for, but the defs and the tables -/
structure Facts (K : PySem.W.Frag) : Prop where
  free_ : (freeNames.all (fun x => He.eqO (PySem.W.nsIn K mainGlobals x) (some none))) = true
  gcd_ : (He.eqO (PySem.W.nsIn K mainGlobals "gcd") (some (some (.builtin "math.gcd")))) = true
  glo_ : (gloNames.all (fun x => He.eqO (PySem.W.nsIn K mainGlobals x) (some (some (.ref (He.ga K x)))))) = true
  dig_ : ((He.Fa.str "DIGITS" "0123456789").ok K) = true
  let_ : ((He.Fa.str "LETTERS" "abcdefghijklmnopqrstuvwxyz").ok K) = true
  s12_ : ((He.Fa.int "MOST_SIGNS" 12).ok K) = true
  hn_ : (He.eqO (PySem.W.specialIn K (.builtin "object.__class__") "__get__") (some (some (.builtin "getset_descriptor.__get__")))) = true
  ht_ : (decide (PySem.W.takesIn K (.builtin "object.__class__") = some true)) = true
  cR_ : (clsB K "Ratio") = true
  cH_ : (clsB K "HandOver") = true
  cS_ : (clsB K "Swap") = true
  nRtop_ : ((He.Fa.noat "Ratio" "top").ok K) = true
  nRbottom_ : ((He.Fa.noat "Ratio" "bottom").ok K) = true
  nHgiver_ : ((He.Fa.noat "HandOver" "giver").ok K) = true
  nHtaker_ : ((He.Fa.noat "HandOver" "taker").ok K) = true
  nHcost_ : ((He.Fa.noat "HandOver" "cost").ok K) = true
  nHgain_ : ((He.Fa.noat "HandOver" "gain").ok K) = true
  nSstrangers_ : ((He.Fa.noat "Swap" "strangers").ok K) = true
  nShands_ : ((He.Fa.noat "Swap" "hands").ok K) = true
  nSnets_ : ((He.Fa.noat "Swap" "nets").ok K) = true
  noI_ : (decide (PySem.W.kitOne K (.ref (rC K)) (.type "int") = some false)) = true
  int_ : (decide (PySem.W.kitOne K (.type "int") (.ref (rC K)) = some false)) = true
  own_ : (ownPairs.all (fun p => ownB K p.1 p.2)) = true
  meth_ : ((He.Fa.meth "HandOver" "effect").ok K) = true
  methR_ : ((["over", "compared", "is_below"] : List Str).all (fun m => (He.Fa.meth "Ratio" m).ok K)) = true
  methN_ : ((He.Fa.meth "Swap" "net").ok K) = true
  sfR_ : (PySem.W.selfFirst K (rC K)) = true
  nrR_ : (He.eqO (PySem.W.findIn K (.ref (rC K)) (dunderR Operator.Add.info.2)) (some none)) = true
  nrS_ : (He.eqO (PySem.W.findIn K (.ref (rC K)) (dunderR Operator.Sub.info.2)) (some none)) = true
  nrM_ : (He.eqO (PySem.W.findIn K (.ref (rC K)) (dunderR Operator.Mult.info.2)) (some none)) = true
  im1_ : ((PySem.W.findIn K (.type "int") (PySem.dunder Operator.Mult.info.2)).isSome) = true
  im2_ : ((PySem.W.findIn K (.type "int") (dunderR Operator.Mult.info.2)).isSome) = true
  im3_ : (decide (PySem.W.subIn K (.type "int") (.ref (rC K)) = some false)) = true
  tne_ : (!decide (tR K = tL K)) = true
  pr_ : (propB K (rC K) "sign") = true
  rdR_ : (PySem.W.readsIn K (rC K) (.type "type")) = true
  gaR_ : (He.eqO (PySem.W.specialIn K (.ref (rC K)) "__getattribute__") (some (some (.builtin "type.__getattribute__")))) = true
  sm_ : (He5.wrapB K (rC K) "staticmethod" "staticmethod.__get__" "of") = true
  rdS_ : (PySem.W.readsIn K (sC K) (.type "type")) = true
  gaS_ : (He.eqO (PySem.W.specialIn K (.ref (sC K)) "__getattribute__") (some (some (.builtin "type.__getattribute__")))) = true
  c6_ : (cvB K "MOST_STRANGERS" 6) = true
  c40_ : (cvB K "MOST_HANDS" 40) = true
  gi_ : (PySem.W.fnIn K (He.ma K (sC K) "__getitem__")) = true
  oddk_ : ((["NoneType", "int", "str", "list"] : List String).all (fun t => decide (PySem.W.kitOne K (.type t) (.ref (sC K)) = some false))) = true
  eBadSwap_ : (errB K "BadSwap" ["part"]) = true
  eBadDone_ : (errB K "BadDone" ["part"]) = true
  eNoHand_ : (errB K "NoHand" ["number"]) = true
  eTwice_ : (errB K "Twice" ["value"]) = true
  eUnlike_ : (errB K "Unlike" ["what"]) = true
  eTooMany_ : (errB K "TooMany" ["what", "most"]) = true
  eBadRow_ : (errB K "BadRow" ["part"]) = true
  eBadNumber_ : (errB K "BadNumber" ["part"]) = true
  eNoStranger_ : (errB K "NoStranger" ["name"]) = true
  eLoser_ : (errB K "Loser" ["name"]) = true
  kt_ : (ktPairs.all (fun p => decide (PySem.W.exmOne K (.ref (He.ga K p.1)) (.ref (He.ga K p.2.1)) = some p.2.2))) = true
theorem facts_of {K : PySem.W.Frag} (h0 : factB0 K = true) (h1 : factB1 K = true) (h2 : factB2 K = true) (h3 : factB3 K = true) (h4 : factB4 K = true) (h5 : factB5 K = true) (h6 : factB6 K = true) : Facts K := by
  obtain ⟨ffree, h0⟩ := He.ba h0
  obtain ⟨fgcd, h0⟩ := He.ba h0
  obtain ⟨fglo, h0⟩ := He.ba h0
  obtain ⟨fdig, h0⟩ := He.ba h0
  obtain ⟨flet, h0⟩ := He.ba h0
  obtain ⟨fs12, h0⟩ := He.ba h0
  obtain ⟨fhn, h0⟩ := He.ba h0
  obtain ⟨fht, h0⟩ := He.ba h0
  have fcR := h0
  obtain ⟨fcH, h1⟩ := He.ba h1
  obtain ⟨fcS, h1⟩ := He.ba h1
  obtain ⟨fnRtop, h1⟩ := He.ba h1
  obtain ⟨fnRbottom, h1⟩ := He.ba h1
  obtain ⟨fnHgiver, h1⟩ := He.ba h1
  obtain ⟨fnHtaker, h1⟩ := He.ba h1
  obtain ⟨fnHcost, h1⟩ := He.ba h1
  obtain ⟨fnHgain, h1⟩ := He.ba h1
  have fnSstrangers := h1
  obtain ⟨fnShands, h2⟩ := He.ba h2
  obtain ⟨fnSnets, h2⟩ := He.ba h2
  obtain ⟨fnoI, h2⟩ := He.ba h2
  obtain ⟨fint, h2⟩ := He.ba h2
  obtain ⟨fown, h2⟩ := He.ba h2
  obtain ⟨fmeth, h2⟩ := He.ba h2
  obtain ⟨fmethR, h2⟩ := He.ba h2
  obtain ⟨fmethN, h2⟩ := He.ba h2
  have fsfR := h2
  obtain ⟨fnrR, h3⟩ := He.ba h3
  obtain ⟨fnrS, h3⟩ := He.ba h3
  obtain ⟨fnrM, h3⟩ := He.ba h3
  obtain ⟨fim1, h3⟩ := He.ba h3
  obtain ⟨fim2, h3⟩ := He.ba h3
  obtain ⟨fim3, h3⟩ := He.ba h3
  obtain ⟨ftne, h3⟩ := He.ba h3
  obtain ⟨fpr, h3⟩ := He.ba h3
  have frdR := h3
  obtain ⟨fgaR, h4⟩ := He.ba h4
  obtain ⟨fsm, h4⟩ := He.ba h4
  obtain ⟨frdS, h4⟩ := He.ba h4
  obtain ⟨fgaS, h4⟩ := He.ba h4
  obtain ⟨fc6, h4⟩ := He.ba h4
  obtain ⟨fc40, h4⟩ := He.ba h4
  obtain ⟨fgi, h4⟩ := He.ba h4
  obtain ⟨foddk, h4⟩ := He.ba h4
  have feBadSwap := h4
  obtain ⟨feBadDone, h5⟩ := He.ba h5
  obtain ⟨feNoHand, h5⟩ := He.ba h5
  obtain ⟨feTwice, h5⟩ := He.ba h5
  obtain ⟨feUnlike, h5⟩ := He.ba h5
  obtain ⟨feTooMany, h5⟩ := He.ba h5
  obtain ⟨feBadRow, h5⟩ := He.ba h5
  obtain ⟨feBadNumber, h5⟩ := He.ba h5
  obtain ⟨feNoStranger, h5⟩ := He.ba h5
  have feLoser := h5
  have fkt := h6
  exact ⟨ffree, fgcd, fglo, fdig, flet, fs12, fhn, fht, fcR, fcH, fcS, fnRtop, fnRbottom, fnHgiver, fnHtaker, fnHcost, fnHgain, fnSstrangers, fnShands, fnSnets, fnoI, fint, fown, fmeth, fmethR, fmethN, fsfR, fnrR, fnrS, fnrM, fim1, fim2, fim3, ftne, fpr, frdR, fgaR, fsm, frdS, fgaS, fc6, fc40, fgi, foddk, feBadSwap, feBadDone, feNoHand, feTwice, feUnlike, feTooMany, feBadRow, feBadNumber, feNoStranger, feLoser, fkt⟩
end K5

namespace K5
open PySem PySem.Spec PyProof.Rows L2 LamX K1 K18
/-- the tables that lambdas fill -/
abbrev TT (K : PySem.W.Frag) : List (Addr × Str) := [(tR K, qRefused), (tL K, qLoses)]
theorem defC_of {K : PySem.W.Frag} {x : Str} {st : Stmt} {fd : FuncData} (F : DefAt K x x st (He.ga K x) fd) : DefC K x x st (He.ga K x) fd (He.codeOf K (x, none)) := by
  obtain ⟨oc, od, dV, kV, doc, pm, an, cdv, ct, osl, e, lk, hcd, _, _⟩ := F.ex
  obtain ⟨c, rfl⟩ := He.codeIn_ref hcd
  have ec : He.codeOf K (x, none) = c := He.codeOf_eq (p := (x, none)) lk (by rw [e])
  rw [ec]
  exact ⟨oc, od, dV, kV, doc, pm, an, ct, osl, e, lk, hcd⟩
/-- a def without defaults, called with keywords -/
theorem kb_of {K : PySem.W.Frag} {x qual : Str} {st : Stmt} {f : Addr} {fd : FuncData} {ps ks : List Str} {n : Nat} {g : List Value → List Value → List Value} {gV : List V → List V → List V} (F : DefAt K x qual st f fd)
    (h : ∀ (kV doc pm : Value) (an : Option Addr) (cdv ct : Value) (us ws : List Value), us.length = n → ws.length = ks.length → bindArgs (PySem.W.fnOf x qual (defArgs st) (defBody st) (defScope st) .none kV doc pm an cdv ct) ⟨us, ks.zip ws⟩ = pure (ps.zip (g us ws)))
    (rel : ∀ {vs : List V} {us : List Value} {zs : List V} {ws : List Value}, Vals vs us → Vals zs ws → Vals (gV vs zs) (g us ws)) : KBn K fd ps n ks g gV := by
  obtain ⟨oc, od, dV, kV, doc, pm, an, cdv, ct, osl, rfl, lk, hcd, hD, hK⟩ := F.ex
  rcases hD with ⟨_, rfl⟩ | ⟨e, _⟩
  · exact ⟨fun s us ws _ hu hw => .of_eq (h kV doc pm an cdv ct us ws hu hw), rel⟩
  · exact absurd rfl e
section
variable {P : Program} {w : World} {K : PySem.W.Frag} {mg : Str → Option Value} {base : Heap}
theorem law_in (X : K.In base) (N : base.Ns mainGlobals mg) (fa : Facts K) (sd : He5.SaysA [] fns K) (TB : TabB base mg (cR K) (tR K)) (TL : TabB base mg (cL K) (tL K)) :
    ∃ fd, DefAt K "law" "law" sLaw (He.ga K "law") fd ∧ FnG P w K mg base CX0 16 (He.ga K "law") fd ["_law_script"] (spLaw K (TT K)) := by
  have fr : ∀ x ∈ freeNames, mg x = none := fun x hx => PySem.W.mg_none_of X N (He.eqO_ok (List.all_eq_true.mp fa.free_ x hx))
  have gl : ∀ x ∈ gloNames, mg x = some (.ref (He.ga K x)) := fun x hx => PySem.W.mg_of X N (He.eqO_ok (List.all_eq_true.mp fa.glo_ x hx))
  have G : Glob mg := ⟨fr _ (by simp [freeNames]), fr _ (by simp [freeNames]), fr _ (by simp [freeNames]), fr _ (by simp [freeNames]), fr _ (by simp [freeNames]), fr _ (by simp [freeNames]), fr _ (by simp [freeNames]), fr _ (by simp [freeNames]), fr _ (by simp [freeNames]), fr _ (by simp [freeNames]), fr _ (by simp [freeNames]), fr _ (by simp [freeNames]), fr _ (by simp [freeNames]), fr _ (by simp [freeNames]), fr _ (by simp [freeNames]), fr _ (by simp [freeNames]), fr _ (by simp [freeNames]), fr _ (by simp [freeNames]), fr _ (by simp [freeNames]), PySem.W.mg_of X N (He.eqO_ok fa.gcd_)⟩
  obtain ⟨t1, c1⟩ := He.str_ok X N fa.dig_
  obtain ⟨t2, c2⟩ := He.str_ok X N fa.let_
  obtain ⟨t4, c4⟩ := He.int_ok X N fa.s12_
  have CO : Consts mg := ⟨⟨_, c1, ⟨_, rfl⟩⟩, ⟨_, c2, ⟨_, rfl⟩⟩, ⟨_, c4, ⟨_, rfl⟩⟩⟩
  have hn := He.eqO_ok fa.hn_
  have ht := of_decide_eq_true fa.ht_
  have fR := clsB_ok hn ht fa.cR_
  have fH := clsB_ok hn ht fa.cH_
  have fS := clsB_ok hn ht fa.cS_
  have R : RatF K (rC K) := ⟨fR.f, He.noat_ok fa.nRtop_, He.noat_ok fa.nRbottom_, of_decide_eq_true fa.noI_, of_decide_eq_true fa.int_⟩
  have RH : HandF K (hC K) := ⟨fH.f, He.noat_ok fa.nHgiver_, He.noat_ok fa.nHtaker_, He.noat_ok fa.nHcost_, He.noat_ok fa.nHgain_⟩
  have RS : SwapF K (sC K) := ⟨fS.f, He.noat_ok fa.nSstrangers_, He.noat_ok fa.nShands_, He.noat_ok fa.nSnets_, ⟨fa.rdS_, He.eqO_ok fa.gaS_⟩, cvB_ok fa.c6_, cvB_ok fa.c40_⟩
  have gR : mg "Ratio" = some (.ref (rC K)) := gl _ (by simp [gloNames])
  have gH : mg "HandOver" = some (.ref (hC K)) := gl _ (by simp [gloNames])
  have gS : mg "Swap" = some (.ref (sC K)) := gl _ (by simp [gloNames])
  have ow : ∀ p ∈ ownPairs, OwnM K (He.ga K p.1) p.2 (He.ma K (He.ga K p.1) p.2) := fun p hp => ownB_ok (List.all_eq_true.mp fa.own_ p hp)
  have me : Meth K (hC K) "effect" (He.ma K (hC K) "effect") := He.meth_ok fa.meth_
  have meN : Meth K (sC K) "net" (He.ma K (sC K) "net") := He.meth_ok fa.methN_
  have meR : ∀ m ∈ (["over", "compared", "is_below"] : List Str), Meth K (rC K) m (He.ma K (rC K) m) := fun m hm => He.meth_ok (List.all_eq_true.mp fa.methR_ m hm)
  have tne : tR K ≠ tL K := fun e => by
    have z := fa.tne_
    rw [decide_eq_true e] at z
    cases z
  have u1 : ∀ p ∈ TT K, p.1 = tR K → p.2 = qRefused := fun p hp e => by
    rcases List.mem_cons.mp hp with rfl | hp
    · rfl
    · rw [List.mem_singleton.mp hp] at e; exact absurd e.symm tne
  have u2 : ∀ p ∈ TT K, p.1 = tL K → p.2 = qLoses := fun p hp e => by
    rcases List.mem_cons.mp hp with rfl | hp
    · exact absurd e tne
    · rw [List.mem_singleton.mp hp]
  have eBadSwap := errB_ok hn ht fa.eBadSwap_
  obtain ⟨iBadSwap, IBadSwap⟩ := sd.def_ 0
  replace IBadSwap : DefAt K "__init__" "BadSwap.__init__" (sIni 6) (He.ma K (He.ga K "BadSwap") "__init__") iBadSwap := IBadSwap
  have rBadSwap : ErrR P w K mg base (He.ga K "BadSwap") "BadSwap" ["part"] := ⟨gl _ (by simp [gloNames]), eBadSwap.o, ⟨_, iBadSwap, eBadSwap.i, eBadSwap.it, IBadSwap.bindsN (fun _ _ _ _ _ _ us hl => match us, hl with | [_, _], _ => rfl),
    init1 IBadSwap ⟨rfl, rfl, rfl, by decide +kernel, rfl, by decide +kernel, by decide +kernel⟩ rfl eBadSwap.o ⟨by decide, by decide⟩ (eBadSwap.nf "part" (by simp))⟩⟩
  have eBadDone := errB_ok hn ht fa.eBadDone_
  obtain ⟨iBadDone, IBadDone⟩ := sd.def_ 1
  replace IBadDone : DefAt K "__init__" "BadDone.__init__" (sIni 8) (He.ma K (He.ga K "BadDone") "__init__") iBadDone := IBadDone
  have rBadDone : ErrR P w K mg base (He.ga K "BadDone") "BadDone" ["part"] := ⟨gl _ (by simp [gloNames]), eBadDone.o, ⟨_, iBadDone, eBadDone.i, eBadDone.it, IBadDone.bindsN (fun _ _ _ _ _ _ us hl => match us, hl with | [_, _], _ => rfl),
    init1 IBadDone ⟨rfl, rfl, rfl, by decide +kernel, rfl, by decide +kernel, by decide +kernel⟩ rfl eBadDone.o ⟨by decide, by decide⟩ (eBadDone.nf "part" (by simp))⟩⟩
  have eNoHand := errB_ok hn ht fa.eNoHand_
  obtain ⟨iNoHand, INoHand⟩ := sd.def_ 2
  replace INoHand : DefAt K "__init__" "NoHand.__init__" (sIni 12) (He.ma K (He.ga K "NoHand") "__init__") iNoHand := INoHand
  have rNoHand : ErrR P w K mg base (He.ga K "NoHand") "NoHand" ["number"] := ⟨gl _ (by simp [gloNames]), eNoHand.o, ⟨_, iNoHand, eNoHand.i, eNoHand.it, INoHand.bindsN (fun _ _ _ _ _ _ us hl => match us, hl with | [_, _], _ => rfl),
    init1 INoHand ⟨rfl, rfl, rfl, by decide +kernel, rfl, by decide +kernel, by decide +kernel⟩ rfl eNoHand.o ⟨by decide, by decide⟩ (eNoHand.nf "number" (by simp))⟩⟩
  have eTwice := errB_ok hn ht fa.eTwice_
  obtain ⟨iTwice, ITwice⟩ := sd.def_ 3
  replace ITwice : DefAt K "__init__" "Twice.__init__" (sIni 13) (He.ma K (He.ga K "Twice") "__init__") iTwice := ITwice
  have rTwice : ErrR P w K mg base (He.ga K "Twice") "Twice" ["value"] := ⟨gl _ (by simp [gloNames]), eTwice.o, ⟨_, iTwice, eTwice.i, eTwice.it, ITwice.bindsN (fun _ _ _ _ _ _ us hl => match us, hl with | [_, _], _ => rfl),
    init1 ITwice ⟨rfl, rfl, rfl, by decide +kernel, rfl, by decide +kernel, by decide +kernel⟩ rfl eTwice.o ⟨by decide, by decide⟩ (eTwice.nf "value" (by simp))⟩⟩
  have eUnlike := errB_ok hn ht fa.eUnlike_
  obtain ⟨iUnlike, IUnlike⟩ := sd.def_ 4
  replace IUnlike : DefAt K "__init__" "Unlike.__init__" (sIni 14) (He.ma K (He.ga K "Unlike") "__init__") iUnlike := IUnlike
  have rUnlike : ErrR P w K mg base (He.ga K "Unlike") "Unlike" ["what"] := ⟨gl _ (by simp [gloNames]), eUnlike.o, ⟨_, iUnlike, eUnlike.i, eUnlike.it, IUnlike.bindsN (fun _ _ _ _ _ _ us hl => match us, hl with | [_, _], _ => rfl),
    init1 IUnlike ⟨rfl, rfl, rfl, by decide +kernel, rfl, by decide +kernel, by decide +kernel⟩ rfl eUnlike.o ⟨by decide, by decide⟩ (eUnlike.nf "what" (by simp))⟩⟩
  have eTooMany := errB_ok hn ht fa.eTooMany_
  obtain ⟨iTooMany, ITooMany⟩ := sd.def_ 5
  replace ITooMany : DefAt K "__init__" "TooMany.__init__" (sIni 16) (He.ma K (He.ga K "TooMany") "__init__") iTooMany := ITooMany
  have rTooMany : ErrR P w K mg base (He.ga K "TooMany") "TooMany" ["what", "most"] := ⟨gl _ (by simp [gloNames]), eTooMany.o, ⟨_, iTooMany, eTooMany.i, eTooMany.it, ITooMany.bindsN (fun _ _ _ _ _ _ us hl => match us, hl with | [_, _, _], _ => rfl),
    init2 ITooMany ⟨rfl, rfl, rfl, by decide +kernel, rfl, by decide +kernel, by decide +kernel⟩ rfl eTooMany.o ⟨by decide, by decide⟩ ⟨by decide, by decide⟩ (eTooMany.nf "what" (by simp)) (eTooMany.nf "most" (by simp))⟩⟩
  have eBadRow := errB_ok hn ht fa.eBadRow_
  obtain ⟨iBadRow, IBadRow⟩ := sd.def_ 6
  replace IBadRow : DefAt K "__init__" "BadRow.__init__" (sIni 7) (He.ma K (He.ga K "BadRow") "__init__") iBadRow := IBadRow
  have rBadRow : ErrR P w K mg base (He.ga K "BadRow") "BadRow" ["part"] := ⟨gl _ (by simp [gloNames]), eBadRow.o, ⟨_, iBadRow, eBadRow.i, eBadRow.it, IBadRow.bindsN (fun _ _ _ _ _ _ us hl => match us, hl with | [_, _], _ => rfl),
    init1 IBadRow ⟨rfl, rfl, rfl, by decide +kernel, rfl, by decide +kernel, by decide +kernel⟩ rfl eBadRow.o ⟨by decide, by decide⟩ (eBadRow.nf "part" (by simp))⟩⟩
  have eBadNumber := errB_ok hn ht fa.eBadNumber_
  obtain ⟨iBadNumber, IBadNumber⟩ := sd.def_ 7
  replace IBadNumber : DefAt K "__init__" "BadNumber.__init__" (sIni 9) (He.ma K (He.ga K "BadNumber") "__init__") iBadNumber := IBadNumber
  have rBadNumber : ErrR P w K mg base (He.ga K "BadNumber") "BadNumber" ["part"] := ⟨gl _ (by simp [gloNames]), eBadNumber.o, ⟨_, iBadNumber, eBadNumber.i, eBadNumber.it, IBadNumber.bindsN (fun _ _ _ _ _ _ us hl => match us, hl with | [_, _], _ => rfl),
    init1 IBadNumber ⟨rfl, rfl, rfl, by decide +kernel, rfl, by decide +kernel, by decide +kernel⟩ rfl eBadNumber.o ⟨by decide, by decide⟩ (eBadNumber.nf "part" (by simp))⟩⟩
  have eNoStranger := errB_ok hn ht fa.eNoStranger_
  obtain ⟨iNoStranger, INoStranger⟩ := sd.def_ 8
  replace INoStranger : DefAt K "__init__" "NoStranger.__init__" (sIni 11) (He.ma K (He.ga K "NoStranger") "__init__") iNoStranger := INoStranger
  have rNoStranger : ErrR P w K mg base (He.ga K "NoStranger") "NoStranger" ["name"] := ⟨gl _ (by simp [gloNames]), eNoStranger.o, ⟨_, iNoStranger, eNoStranger.i, eNoStranger.it, INoStranger.bindsN (fun _ _ _ _ _ _ us hl => match us, hl with | [_, _], _ => rfl),
    init1 INoStranger ⟨rfl, rfl, rfl, by decide +kernel, rfl, by decide +kernel, by decide +kernel⟩ rfl eNoStranger.o ⟨by decide, by decide⟩ (eNoStranger.nf "name" (by simp))⟩⟩
  have eLoser := errB_ok hn ht fa.eLoser_
  obtain ⟨iLoser, ILoser⟩ := sd.def_ 9
  replace ILoser : DefAt K "__init__" "Loser.__init__" (sIni 15) (He.ma K (He.ga K "Loser") "__init__") iLoser := ILoser
  have rLoser : ErrR P w K mg base (He.ga K "Loser") "Loser" ["name"] := ⟨gl _ (by simp [gloNames]), eLoser.o, ⟨_, iLoser, eLoser.i, eLoser.it, ILoser.bindsN (fun _ _ _ _ _ _ us hl => match us, hl with | [_, _], _ => rfl),
    init1 ILoser ⟨rfl, rfl, rfl, by decide +kernel, rfl, by decide +kernel, by decide +kernel⟩ rfl eLoser.o ⟨by decide, by decide⟩ (eLoser.nf "name" (by simp))⟩⟩
  have B : Errs P w K mg base (He.ga K "BadSwap") (He.ga K "BadDone") (He.ga K "NoHand") (He.ga K "Twice") (He.ga K "Unlike") (He.ga K "TooMany") := ⟨rBadSwap, rBadDone, rNoHand, rTwice, rUnlike, rTooMany⟩
  have kt : ∀ p ∈ ktPairs, PySem.W.exmOne K (.ref (He.ga K p.1)) (.ref (He.ga K p.2.1)) = some p.2.2 := fun p hp => of_decide_eq_true (List.all_eq_true.mp fa.kt_ p hp)
  have FLT : Flt K mg (He.ga K "BadSwap") (He.ga K "BadRow") (He.ga K "BadNumber") (He.ga K "NoStranger") (He.ga K "Loser") := ⟨⟨gl _ (by simp [gloNames]), eBadSwap.e⟩, ⟨gl _ (by simp [gloNames]), eBadRow.e⟩, ⟨gl _ (by simp [gloNames]), eBadNumber.e⟩, ⟨gl _ (by simp [gloNames]), eNoStranger.e⟩, ⟨gl _ (by simp [gloNames]), eLoser.e⟩,
    eBadSwap.nf "part" (by simp), eBadRow.nf "part" (by simp), eBadNumber.nf "part" (by simp), eNoStranger.nf "name" (by simp), eLoser.nf "name" (by simp), kt ("BadSwap", "BadSwap", true) (by simp [ktPairs]), kt ("BadRow", "BadSwap", false) (by simp [ktPairs]), kt ("BadRow", "BadRow", true) (by simp [ktPairs]), kt ("BadNumber", "BadSwap", false) (by simp [ktPairs]), kt ("BadNumber", "BadRow", false) (by simp [ktPairs]), kt ("BadNumber", "BadNumber", true) (by simp [ktPairs]), kt ("NoStranger", "BadSwap", false) (by simp [ktPairs]), kt ("NoStranger", "BadRow", false) (by simp [ktPairs]), kt ("NoStranger", "BadNumber", false) (by simp [ktPairs]), kt ("NoStranger", "NoStranger", true) (by simp [ktPairs]), kt ("Loser", "BadSwap", false) (by simp [ktPairs]), kt ("Loser", "BadRow", false) (by simp [ktPairs]), kt ("Loser", "BadNumber", false) (by simp [ktPairs]), kt ("Loser", "NoStranger", false) (by simp [ktPairs]), kt ("Loser", "Loser", true) (by simp [ktPairs])⟩
  have OD : ∀ t ∈ ["NoneType", "int", "str", "list"], PySem.W.kitOne K (.type t) (.ref (sC K)) = some false := fun t h => of_decide_eq_true (List.all_eq_true.mp fa.oddk_ t h)
  obtain ⟨disuinteger, Fisuinteger⟩ := sd.def_ 26
  replace Fisuinteger : DefAt K "is_integer" "is_integer" sIsInt (He.ga K "is_integer") disuinteger := Fisuinteger
  have bisuinteger : Binds K disuinteger ["value"] [] := Fisuinteger.bindsN (fun _ _ _ _ _ _ us hl => match us, hl with | [_], _ => rfl)
  have gisuinteger : mg "is_integer" = some (.ref (He.ga K "is_integer")) := gl _ (by simp [gloNames])
  have HI : HasInt P w K mg base := ⟨⟨_, disuinteger, gisuinteger, Fisuinteger.kp, bisuinteger, ok_isInt G Fisuinteger⟩⟩
  obtain ⟨disulisted, Fisulisted⟩ := sd.def_ 28
  replace Fisulisted : DefAt K "is_listed" "is_listed" sListed (He.ga K "is_listed") disulisted := Fisulisted
  have bisulisted : Binds K disulisted ["value"] [] := Fisulisted.bindsN (fun _ _ _ _ _ _ us hl => match us, hl with | [_], _ => rfl)
  have gisulisted : mg "is_listed" = some (.ref (He.ga K "is_listed")) := gl _ (by simp [gloNames])
  have HLi : HasListed P w K mg base := ⟨⟨_, disulisted, gisulisted, Fisulisted.kp, bisulisted, ok_listed G Fisulisted⟩⟩
  obtain ⟨disuwithin, Fisuwithin⟩ := sd.def_ 27
  replace Fisuwithin : DefAt K "is_within" "is_within" sWithin (He.ga K "is_within") disuwithin := Fisuwithin
  have bisuwithin : Binds K disuwithin ["value", "least", "most"] [] := Fisuwithin.bindsN (fun _ _ _ _ _ _ us hl => match us, hl with | [_, _, _], _ => rfl)
  have gisuwithin : mg "is_within" = some (.ref (He.ga K "is_within")) := gl _ (by simp [gloNames])
  have HWi : HasWithin P w K mg base := ⟨⟨_, disuwithin, gisuwithin, Fisuwithin.kp, bisuwithin, ok_within HI Fisuwithin⟩⟩
  obtain ⟨dareuintegers, Fareuintegers⟩ := sd.def_ 29
  replace Fareuintegers : DefAt K "are_integers" "are_integers" sAreInts (He.ga K "are_integers") dareuintegers := Fareuintegers
  have bareuintegers : Binds K dareuintegers ["value"] [] := Fareuintegers.bindsN (fun _ _ _ _ _ _ us hl => match us, hl with | [_], _ => rfl)
  have gareuintegers : mg "are_integers" = some (.ref (He.ga K "are_integers")) := gl _ (by simp [gloNames])
  have HAI : HasAreInts P w K mg base := ⟨⟨_, dareuintegers, gareuintegers, Fareuintegers.kp, bareuintegers, ok_areInts G HI HLi Fareuintegers⟩⟩
  obtain ⟨dcheckuhand, Fcheckuhand⟩ := sd.def_ 34
  replace Fcheckuhand : DefAt K "check_hand" "check_hand" sHand (He.ga K "check_hand") dcheckuhand := Fcheckuhand
  have bcheckuhand : Binds K dcheckuhand ["many", "value"] [] := Fcheckuhand.bindsN (fun _ _ _ _ _ _ us hl => match us, hl with | [_, _], _ => rfl)
  have gcheckuhand : mg "check_hand" = some (.ref (He.ga K "check_hand")) := gl _ (by simp [gloNames])
  have HHa : HasHand P w K mg base (He.ga K "NoHand") := ⟨⟨_, dcheckuhand, gcheckuhand, Fcheckuhand.kp, bcheckuhand, ok_hand HWi B Fcheckuhand⟩⟩
  obtain ⟨dcheckunoneutwice, Fcheckunoneutwice⟩ := sd.def_ 32
  replace Fcheckunoneutwice : DefAt K "check_none_twice" "check_none_twice" sNoneTwice (He.ga K "check_none_twice") dcheckunoneutwice := Fcheckunoneutwice
  have bcheckunoneutwice : Binds K dcheckunoneutwice ["items"] [] := Fcheckunoneutwice.bindsN (fun _ _ _ _ _ _ us hl => match us, hl with | [_], _ => rfl)
  have gcheckunoneutwice : mg "check_none_twice" = some (.ref (He.ga K "check_none_twice")) := gl _ (by simp [gloNames])
  have HTw : HasTwice P w K mg base (He.ga K "Twice") := ⟨⟨_, dcheckunoneutwice, gcheckunoneutwice, Fcheckunoneutwice.kp, bcheckunoneutwice, ok_twice B Fcheckunoneutwice⟩⟩
  have HTS : HasTwiceS P w K mg base := ⟨⟨_, dcheckunoneutwice, gcheckunoneutwice, Fcheckunoneutwice.kp, bcheckunoneutwice, ok_twiceS Fcheckunoneutwice⟩⟩
  obtain ⟨dhandsutold, Fhandsutold⟩ := sd.def_ 33
  replace Fhandsutold : DefAt K "hands_told" "hands_told" sHands (He.ga K "hands_told") dhandsutold := Fhandsutold
  have bhandsutold : Binds K dhandsutold ["many", "value", "part"] [] := Fhandsutold.bindsN (fun _ _ _ _ _ _ us hl => match us, hl with | [_, _, _], _ => rfl)
  have ghandsutold : mg "hands_told" = some (.ref (He.ga K "hands_told")) := gl _ (by simp [gloNames])
  have HHs : HasHands P w K mg base (He.ga K "BadDone") (He.ga K "NoHand") (He.ga K "Twice") := ⟨⟨_, dhandsutold, ghandsutold, Fhandsutold.kp, bhandsutold, ok_hands G HAI HWi HTw B Fhandsutold⟩⟩
  obtain ⟨disuname, Fisuname⟩ := sd.def_ 30
  replace Fisuname : DefAt K "is_name" "is_name" sName (He.ga K "is_name") disuname := Fisuname
  have bisuname : Binds K disuname ["value"] [] := Fisuname.bindsN (fun _ _ _ _ _ _ us hl => match us, hl with | [_], _ => rfl)
  have gisuname : mg "is_name" = some (.ref (He.ga K "is_name")) := gl _ (by simp [gloNames])
  have HNa : HasName P w K mg base := ⟨⟨_, disuname, gisuname, Fisuname.kp, bisuname, ok_name G CO Fisuname⟩⟩
  obtain ⟨dareunames, Fareunames⟩ := sd.def_ 31
  replace Fareunames : DefAt K "are_names" "are_names" sAreNames (He.ga K "are_names") dareunames := Fareunames
  have bareunames : Binds K dareunames ["value"] [] := Fareunames.bindsN (fun _ _ _ _ _ _ us hl => match us, hl with | [_], _ => rfl)
  have gareunames : mg "are_names" = some (.ref (He.ga K "are_names")) := gl _ (by simp [gloNames])
  have HNs : HasNames P w K mg base := ⟨⟨_, dareunames, gareunames, Fareunames.kp, bareunames, ok_names G HNa HLi Fareunames⟩⟩
  have HNA : HasNameA P w K mg base := ⟨⟨_, disuname, gisuname, Fisuname.kp, bisuname, ok_nameA G CO Fisuname⟩⟩
  obtain ⟨d0, F0⟩ := sd.def_ 12
  replace F0 : FunD K "__init__" "Ratio.__init__" (defArgs sRInit) (defBody sRInit) (defScope sRInit) [.int 1] [] (He.ma K (rC K) "__init__") d0 := F0
  have okI : FnOk P w K mg base CX0 2 (He.ma K (rC K) "__init__") d0 ["self", "top", "bottom"] (spRI (rC K)) := ok_rinit G R HI F0
  obtain ⟨ds0, v0, bi0⟩ : ∃ ds, Vals [] ds ∧ Binds K d0 ["self", "top", "bottom"] ds := F0.binds1 3 1 (List.cons_ne_nil _ _) rfl fun T kV doc pm an cdv ct us its hu hi => match us, its, hu, hi with
    | [_, _, _], [_], _, _ => ⟨_, rfl, rfl⟩
  obtain ⟨ds1, v1, bi1⟩ : ∃ ds, Vals [.int 1] ds ∧ Binds K d0 ["self", "top", "bottom"] ds := F0.binds1 2 0 (List.cons_ne_nil _ _) rfl fun T kV doc pm an cdv ct us its hu hi => match us, its, hu, hi with
    | [_, _], [_], _, _ => ⟨_, rfl, rfl⟩
  cases v0
  have MR : MkR P w K mg base (rC K) := ⟨gR, _, d0, ds1, fR.mkc, okI, bi0, v1, bi1⟩
  obtain ⟨duright, Furight⟩ := sd.def_ 37
  replace Furight : DefAt K "_right" "_right" sRight (He.ga K "_right") duright := Furight
  have buright : Binds K duright ["other"] [] := Furight.bindsN (fun _ _ _ _ _ _ us hl => match us, hl with | [_], _ => rfl)
  have guright : mg "_right" = some (.ref (He.ga K "_right")) := gl _ (by simp [gloNames])
  have HR : HasRight P w K mg base (He.ga K "Ratio") := ⟨⟨_, duright, guright, Furight.kp, buright, ok_right G R HI MR Furight⟩⟩
  obtain ⟨disuratio, Fisuratio⟩ := sd.def_ 38
  replace Fisuratio : DefAt K "is_ratio" "is_ratio" sIsRatio (He.ga K "is_ratio") disuratio := Fisuratio
  have bisuratio : Binds K disuratio ["value"] [] := Fisuratio.bindsN (fun _ _ _ _ _ _ us hl => match us, hl with | [_], _ => rfl)
  have gisuratio : mg "is_ratio" = some (.ref (He.ga K "is_ratio")) := gl _ (by simp [gloNames])
  have HQ : HasIsR P w K mg base (He.ga K "Ratio") := ⟨⟨_, disuratio, gisuratio, Fisuratio.kp, bisuratio, ok_isR G R HI gR Fisuratio⟩⟩
  have CR : ClX.CRead K (rC K) (.type "type") := ⟨fa.rdR_, He.eqO_ok fa.gaR_⟩
  obtain ⟨d5, F5⟩ := sd.def_ 11
  replace F5 : DefAt K "of" "Ratio.of" sROf (He5.wf K (rC K) "staticmethod" "of") d5 := F5
  have SM : SMet K (rC K) "of" (He5.wf K (rC K) "staticmethod" "of") := ⟨⟨_, (He5.wrapB_ok fa.sm_).1, (He5.wrapB_ok fa.sm_).2⟩, F5.kp⟩
  obtain ⟨d2, F2⟩ := sd.def_ 10
  replace F2 : DefAt K "sign" "Ratio.sign" sRSign (gP K (rC K) "sign") d2 := F2
  have RM : RatM P w K mg base (rC K) := ⟨gR, CR, ⟨_, d5, SM, F5.bindsN (fun _ _ _ _ _ _ us hl => match us, hl with | [_], _ => rfl), ok_of HR HQ F5⟩, ⟨_, _, d2, propB_ok fa.pr_, F2.bindsN (fun _ _ _ _ _ _ us hl => match us, hl with | [_], _ => rfl), ok_sign R F2⟩⟩
  obtain ⟨mRuuadduu, MRuuadduu⟩ := sd.def_ 13
  replace MRuuadduu : DefAt K "__add__" "Ratio.__add__" sRAdd (He.ma K (He.ga K "Ratio") "__add__") mRuuadduu := MRuuadduu
  have qRuuadduu : Binds K mRuuadduu ["self", "other"] [] := MRuuadduu.bindsN (fun _ _ _ _ _ _ us hl => match us, hl with | [_, _], _ => rfl)
  obtain ⟨mRuusubuu, MRuusubuu⟩ := sd.def_ 14
  replace MRuusubuu : DefAt K "__sub__" "Ratio.__sub__" sRSub (He.ma K (He.ga K "Ratio") "__sub__") mRuusubuu := MRuusubuu
  have qRuusubuu : Binds K mRuusubuu ["self", "other"] [] := MRuusubuu.bindsN (fun _ _ _ _ _ _ us hl => match us, hl with | [_, _], _ => rfl)
  obtain ⟨mRuumuluu, MRuumuluu⟩ := sd.def_ 15
  replace MRuumuluu : DefAt K "__mul__" "Ratio.__mul__" sRMul (He.ma K (He.ga K "Ratio") "__mul__") mRuumuluu := MRuumuluu
  have qRuumuluu : Binds K mRuumuluu ["self", "other"] [] := MRuumuluu.bindsN (fun _ _ _ _ _ _ us hl => match us, hl with | [_, _], _ => rfl)
  obtain ⟨mRuuneguu, MRuuneguu⟩ := sd.def_ 16
  replace MRuuneguu : DefAt K "__neg__" "Ratio.__neg__" sRNeg (He.ma K (He.ga K "Ratio") "__neg__") mRuuneguu := MRuuneguu
  have qRuuneguu : Binds K mRuuneguu ["self"] [] := MRuuneguu.bindsN (fun _ _ _ _ _ _ us hl => match us, hl with | [_], _ => rfl)
  obtain ⟨mRover, MRover⟩ := sd.def_ 17
  replace MRover : DefAt K "over" "Ratio.over" sROver (He.ma K (He.ga K "Ratio") "over") mRover := MRover
  have qRover : Binds K mRover ["self", "other"] [] := MRover.bindsN (fun _ _ _ _ _ _ us hl => match us, hl with | [_, _], _ => rfl)
  obtain ⟨mRcompared, MRcompared⟩ := sd.def_ 18
  replace MRcompared : DefAt K "compared" "Ratio.compared" sRCmp (He.ma K (He.ga K "Ratio") "compared") mRcompared := MRcompared
  have qRcompared : Binds K mRcompared ["self", "other"] [] := MRcompared.bindsN (fun _ _ _ _ _ _ us hl => match us, hl with | [_, _], _ => rfl)
  obtain ⟨mRisubelow, MRisubelow⟩ := sd.def_ 19
  replace MRisubelow : DefAt K "is_below" "Ratio.is_below" sRBelow (He.ma K (He.ga K "Ratio") "is_below") mRisubelow := MRisubelow
  have qRisubelow : Binds K mRisubelow ["self", "other"] [] := MRisubelow.bindsN (fun _ _ _ _ _ _ us hl => match us, hl with | [_, _], _ => rfl)
  have RA : AddO P w K mg base (rC K) CX0 5 (spSum (rC K)) := ⟨⟨_, mRuuadduu, ow ("Ratio", "__add__") (by simp [ownPairs]), qRuuadduu, ok_add R HR MR MRuuadduu⟩, fa.sfR_, He.eqO_ok fa.nrR_⟩
  have RN : Own P w K mg base (rC K) CX0 4 "__neg__" ["self"] (spNeg (rC K)) := ⟨_, mRuuneguu, ow ("Ratio", "__neg__") (by simp [ownPairs]), qRuuneguu, ok_neg R MR MRuuneguu⟩
  have HRF : HasRightF P w K mg base (rC K) := ⟨⟨_, duright, guright, Furight.kp, buright, ok_rightF G R HI MR Furight⟩⟩
  have RS_ : OpO P w K mg base (rC K) .Sub 5 (spSubF (rC K)) := ⟨⟨_, mRuusubuu, (show PySem.dunder Operator.Sub.info.2 = "__sub__" by decide +kernel) ▸ ow ("Ratio", "__sub__") (by simp [ownPairs]), qRuusubuu, ok_subF R HRF MR MRuusubuu⟩, fa.sfR_, He.eqO_ok fa.nrS_⟩
  have RM_ : OpO P w K mg base (rC K) .Mult 5 (spMulF (rC K)) := ⟨⟨_, mRuumuluu, (show PySem.dunder Operator.Mult.info.2 = "__mul__" by decide +kernel) ▸ ow ("Ratio", "__mul__") (by simp [ownPairs]), qRuumuluu, ok_mulF R HRF MR MRuumuluu⟩, fa.sfR_, He.eqO_ok fa.nrM_⟩
  have RNF : Own P w K mg base (rC K) CX0 4 "__neg__" ["self"] (spNegF (rC K)) := ⟨_, mRuuneguu, ow ("Ratio", "__neg__") (by simp [ownPairs]), qRuuneguu, ok_negF R MR MRuuneguu⟩
  obtain ⟨io, eio⟩ := Option.isSome_iff_exists.mp fa.im1_
  obtain ⟨jo, ejo⟩ := Option.isSome_iff_exists.mp fa.im2_
  have IMu : IntR K (rC K) .Mult := ⟨⟨io, jo, eio, ejo, of_decide_eq_true fa.im3_⟩⟩
  have MOv : Met1 P w K mg base (rC K) "over" 5 (spOverF (rC K)) := ⟨⟨_, mRover, meR "over" (by simp), qRover, ok_overF R HRF MR MRover⟩⟩
  have MCo : Met1 P w K mg base (rC K) "compared" 5 (spCmpF (rC K)) := ⟨⟨_, mRcompared, meR "compared" (by simp), qRcompared, ok_cmpF R HRF MRcompared⟩⟩
  have MBe : Met1 P w K mg base (rC K) "is_below" 6 (spBelF (rC K)) := ⟨⟨_, mRisubelow, meR "is_below" (by simp), qRisubelow, ok_belF R MCo MRisubelow⟩⟩
  obtain ⟨disuamount, Fisuamount⟩ := sd.def_ 39
  replace Fisuamount : DefAt K "is_amount" "is_amount" sIsAmount (He.ga K "is_amount") disuamount := Fisuamount
  have bisuamount : Binds K disuamount ["value"] [] := Fisuamount.bindsN (fun _ _ _ _ _ _ us hl => match us, hl with | [_], _ => rfl)
  have gisuamount : mg "is_amount" = some (.ref (He.ga K "is_amount")) := gl _ (by simp [gloNames])
  have HAm : HasAmount P w K mg base (He.ga K "Ratio") := ⟨⟨_, disuamount, gisuamount, Fisuamount.kp, bisuamount, ok_amount R HQ RM Fisuamount⟩⟩
  obtain ⟨duareuratios, Fuareuratios⟩ := sd.def_ 40
  replace Fuareuratios : DefAt K "_are_ratios" "_are_ratios" sAreRatios (He.ga K "_are_ratios") duareuratios := Fuareuratios
  have buareuratios : Binds K duareuratios ["value"] [] := Fuareuratios.bindsN (fun _ _ _ _ _ _ us hl => match us, hl with | [_], _ => rfl)
  have guareuratios : mg "_are_ratios" = some (.ref (He.ga K "_are_ratios")) := gl _ (by simp [gloNames])
  have HAr : HasAre P w K mg base (He.ga K "Ratio") := ⟨⟨_, duareuratios, guareuratios, Fuareuratios.kp, buareuratios, ok_are G HLi HQ Fuareuratios⟩⟩
  obtain ⟨dadded, Fadded⟩ := sd.def_ 41
  replace Fadded : DefAt K "added" "added" sAdded (He.ga K "added") dadded := Fadded
  have badded : Binds K dadded ["ratios"] [] := Fadded.bindsN (fun _ _ _ _ _ _ us hl => match us, hl with | [_], _ => rfl)
  have gadded : mg "added" = some (.ref (He.ga K "added")) := gl _ (by simp [gloNames])
  have HAd : HasAdded P w K mg base (He.ga K "Ratio") := ⟨⟨_, dadded, gadded, Fadded.kp, badded, ok_added R HAr MR RA Fadded⟩⟩
  obtain ⟨mHuuinituu, MHuuinituu⟩ := sd.def_ 20
  replace MHuuinituu : DefAt K "__init__" "HandOver.__init__" sHInit (He.ma K (He.ga K "HandOver") "__init__") mHuuinituu := MHuuinituu
  have qHuuinituu : Binds K mHuuinituu ["self", "giver", "taker", "cost", "gain"] [] := MHuuinituu.bindsN (fun _ _ _ _ _ _ us hl => match us, hl with | [_, _, _, _, _], _ => rfl)
  obtain ⟨mHeffect, MHeffect⟩ := sd.def_ 21
  replace MHeffect : DefAt K "effect" "HandOver.effect" sHEff (He.ma K (He.ga K "HandOver") "effect") mHeffect := MHeffect
  have qHeffect : Binds K mHeffect ["self", "name"] [] := MHeffect.bindsN (fun _ _ _ _ _ _ us hl => match us, hl with | [_, _], _ => rfl)
  have MH : MkH P w K mg base (rC K) (hC K) := ⟨gH, ⟨_, mHuuinituu, fH.mkc, ok_hinit RH HNa HAm RM MHuuinituu, qHuuinituu⟩⟩
  have EM : EffM P w K mg base (rC K) (hC K) := ⟨⟨_, mHeffect, me, qHeffect, ok_heff RH RN MR MHeffect⟩⟩
  obtain ⟨ducheckuparties, Fucheckuparties⟩ := sd.def_ 42
  replace Fucheckuparties : DefAt K "_check_parties" "_check_parties" sParties (He.ga K "_check_parties") ducheckuparties := Fucheckuparties
  have bucheckuparties : Binds K ducheckuparties ["hand", "strangers"] [] := Fucheckuparties.bindsN (fun _ _ _ _ _ _ us hl => match us, hl with | [_, _], _ => rfl)
  have gucheckuparties : mg "_check_parties" = some (.ref (He.ga K "_check_parties")) := gl _ (by simp [gloNames])
  have HPa : HasParties P w K mg base (He.ga K "Ratio") (He.ga K "HandOver") := ⟨⟨_, ducheckuparties, gucheckuparties, Fucheckuparties.kp, bucheckuparties, ok_parties RH Fucheckuparties⟩⟩
  obtain ⟨dunetuof, Funetuof⟩ := sd.def_ 43
  replace Funetuof : DefAt K "_net_of" "_net_of" sNetOf (He.ga K "_net_of") dunetuof := Funetuof
  have bunetuof : Binds K dunetuof ["hands", "name"] [] := Funetuof.bindsN (fun _ _ _ _ _ _ us hl => match us, hl with | [_, _], _ => rfl)
  have gunetuof : mg "_net_of" = some (.ref (He.ga K "_net_of")) := gl _ (by simp [gloNames])
  have HNo : HasNetOf P w K mg base (He.ga K "Ratio") (He.ga K "HandOver") := ⟨⟨_, dunetuof, gunetuof, Funetuof.kp, bunetuof, ok_netOf RH EM HAd Funetuof⟩⟩
  obtain ⟨mSuuinituu, MSuuinituu⟩ := sd.def_ 22
  replace MSuuinituu : DefAt K "__init__" "Swap.__init__" sSInit (He.ma K (He.ga K "Swap") "__init__") mSuuinituu := MSuuinituu
  have qSuuinituu : Binds K mSuuinituu ["self", "strangers", "hands"] [] := MSuuinituu.bindsN (fun _ _ _ _ _ _ us hl => match us, hl with | [_, _, _], _ => rfl)
  obtain ⟨mSuulenuu, MSuulenuu⟩ := sd.def_ 23
  replace MSuulenuu : DefAt K "__len__" "Swap.__len__" sSLen (He.ma K (He.ga K "Swap") "__len__") mSuulenuu := MSuulenuu
  have qSuulenuu : Binds K mSuulenuu ["self"] [] := MSuulenuu.bindsN (fun _ _ _ _ _ _ us hl => match us, hl with | [_], _ => rfl)
  obtain ⟨mSuugetitemuu, MSuugetitemuu⟩ := sd.def_ 24
  replace MSuugetitemuu : DefAt K "__getitem__" "Swap.__getitem__" sSItem (He.ma K (He.ga K "Swap") "__getitem__") mSuugetitemuu := MSuugetitemuu
  have qSuugetitemuu : Binds K mSuugetitemuu ["self", "at"] [] := MSuugetitemuu.bindsN (fun _ _ _ _ _ _ us hl => match us, hl with | [_, _], _ => rfl)
  obtain ⟨mSnet, MSnet⟩ := sd.def_ 25
  replace MSnet : DefAt K "net" "Swap.net" sSNet (He.ma K (He.ga K "Swap") "net") mSnet := MSnet
  have qSnet : Binds K mSnet ["self", "name"] [] := MSnet.bindsN (fun _ _ _ _ _ _ us hl => match us, hl with | [_, _], _ => rfl)
  have MS : MkS P w K mg base (rC K) (hC K) (sC K) (He.ga K "TooMany") := ⟨gS, ⟨_, mSuuinituu, fS.mkc, ok_sinit G RS RH gS gH HNs HLi HTS HPa HNo B MSuuinituu, qSuuinituu⟩⟩
  have LO : LenO P w K mg base (rC K) (hC K) (sC K) := ⟨⟨_, mSuulenuu, ow ("Swap", "__len__") (by simp [ownPairs]), qSuulenuu, ok_slen G RS MSuulenuu⟩⟩
  have IT : ItemO P w K mg base (rC K) (hC K) (sC K) := ⟨⟨_, mSuugetitemuu, ow ("Swap", "__getitem__") (by simp [ownPairs]), fa.gi_, qSuugetitemuu, ok_sitem G RS HHa MSuugetitemuu⟩⟩
  obtain ⟨dcheckuswap, Fcheckuswap⟩ := sd.def_ 44
  replace Fcheckuswap : DefAt K "check_swap" "check_swap" sCheckSwap (He.ga K "check_swap") dcheckuswap := Fcheckuswap
  have bcheckuswap : Binds K dcheckuswap ["swap"] [] := Fcheckuswap.bindsN (fun _ _ _ _ _ _ us hl => match us, hl with | [_], _ => rfl)
  have gcheckuswap : mg "check_swap" = some (.ref (He.ga K "check_swap")) := gl _ (by simp [gloNames])
  have HCk : HasCheck P w K mg base (He.ga K "Ratio") (He.ga K "HandOver") (He.ga K "Swap") (He.ga K "BadSwap") := ⟨⟨_, dcheckuswap, gcheckuswap, Fcheckuswap.kp, bcheckuswap, ok_check G RS gS B Fcheckuswap⟩⟩
  obtain ⟨disurow, Fisurow⟩ := sd.def_ 35
  replace Fisurow : DefAt K "is_row" "is_row" sIsRow (He.ga K "is_row") disurow := Fisurow
  have bisurow : Binds K disurow ["many", "value"] [] := Fisurow.bindsN (fun _ _ _ _ _ _ us hl => match us, hl with | [_, _], _ => rfl)
  have gisurow : mg "is_row" = some (.ref (He.ga K "is_row")) := gl _ (by simp [gloNames])
  have HIR : HasIsRow P w K mg base := ⟨⟨_, disurow, gisurow, Fisurow.kp, bisurow, ok_isRow G HAI Fisurow⟩⟩
  obtain ⟨drowutold, Frowutold⟩ := sd.def_ 36
  replace Frowutold : DefAt K "row_told" "row_told" sRowTold (He.ga K "row_told") drowutold := Frowutold
  have browutold : Binds K drowutold ["many", "value", "part"] [] := Frowutold.bindsN (fun _ _ _ _ _ _ us hl => match us, hl with | [_, _, _], _ => rfl)
  have growutold : mg "row_told" = some (.ref (He.ga K "row_told")) := gl _ (by simp [gloNames])
  have HRT : HasRowTold P w K mg base (He.ga K "BadRow") := ⟨⟨_, drowutold, growutold, Frowutold.kp, browutold, ok_rowTold G HIR rBadRow Frowutold⟩⟩
  obtain ⟨dbegunuat, Fbegunuat⟩ := sd.def_ 48
  replace Fbegunuat : DefAt K "begun_at" "begun_at" sBegun (He.ga K "begun_at") dbegunuat := Fbegunuat
  have bbegunuat : Binds K dbegunuat ["row", "start"] [] := Fbegunuat.bindsN (fun _ _ _ _ _ _ us hl => match us, hl with | [_, _], _ => rfl)
  have gbegunuat : mg "begun_at" = some (.ref (He.ga K "begun_at")) := gl _ (by simp [gloNames])
  have HBA : HasBegunAt P w K mg base (He.ga K "BadRow") (He.ga K "BadNumber") := ⟨⟨_, dbegunuat, gbegunuat, Fbegunuat.kp, bbegunuat, ok_begunAt G HAI HWi rBadRow rBadNumber Fbegunuat⟩⟩
  obtain ⟨dcheckustranger, Fcheckustranger⟩ := sd.def_ 45
  replace Fcheckustranger : DefAt K "check_stranger" "check_stranger" sStranger (He.ga K "check_stranger") dcheckustranger := Fcheckustranger
  have bcheckustranger : Binds K dcheckustranger ["swap", "name"] [] := Fcheckustranger.bindsN (fun _ _ _ _ _ _ us hl => match us, hl with | [_, _], _ => rfl)
  have gcheckustranger : mg "check_stranger" = some (.ref (He.ga K "check_stranger")) := gl _ (by simp [gloNames])
  have HSt : HasStranger P w K mg base (He.ga K "Ratio") (He.ga K "HandOver") (He.ga K "Swap") (He.ga K "NoStranger") := ⟨⟨_, dcheckustranger, gcheckustranger, Fcheckustranger.kp, bcheckustranger, ok_stranger RS HNA rNoStranger Fcheckustranger⟩⟩
  have NM : NetM P w K mg base (He.ga K "Ratio") (He.ga K "HandOver") (He.ga K "Swap") (He.ga K "NoStranger") := ⟨⟨_, mSnet, meN, qSnet, ok_net RS HSt MSnet⟩⟩
  obtain ⟨dulineubehind, Fulineubehind⟩ := sd.def_ 47
  replace Fulineubehind : DefAt K "_line_behind" "_line_behind" sLineB (He.ga K "_line_behind") dulineubehind := Fulineubehind
  have bulineubehind : Binds K dulineubehind ["swap", "line", "number"] [] := Fulineubehind.bindsN (fun _ _ _ _ _ _ us hl => match us, hl with | [_, _, _], _ => rfl)
  have gulineubehind : mg "_line_behind" = some (.ref (He.ga K "_line_behind")) := gl _ (by simp [gloNames])
  have HLB : HasLineB P w K mg base (He.ga K "Ratio") (He.ga K "HandOver") (He.ga K "Swap") := ⟨⟨_, dulineubehind, gulineubehind, Fulineubehind.kp, bulineubehind, ok_lineB G RS RH IT EM RA Fulineubehind⟩⟩
  obtain ⟨dalong, Falong⟩ := sd.def_ 46
  replace Falong : DefAt K "along" "along" sAlong (He.ga K "along") dalong := Falong
  have balong : Binds K dalong ["swap", "numbers"] [] := Falong.bindsN (fun _ _ _ _ _ _ us hl => match us, hl with | [_, _], _ => rfl)
  have galong : mg "along" = some (.ref (He.ga K "along")) := gl _ (by simp [gloNames])
  have AZ : AlongZ P w K mg base (He.ga K "Ratio") (He.ga K "HandOver") (He.ga K "Swap") := ⟨⟨_, dalong, galong, Falong.kp, balong, fun pl => ok_alZ pl G RS MR HCk HHs LO HLB Falong⟩⟩
  obtain ⟨duaboveuroad, Fuaboveuroad⟩ := sd.def_ 51
  replace Fuaboveuroad : DefAt K "_above_road" "_above_road" sAbove (He.ga K "_above_road") duaboveuroad := Fuaboveuroad
  have buaboveuroad : Binds K duaboveuroad ["swap", "row", "name"] [] := Fuaboveuroad.bindsN (fun _ _ _ _ _ _ us hl => match us, hl with | [_, _, _], _ => rfl)
  have guaboveuroad : mg "_above_road" = some (.ref (He.ga K "_above_road")) := gl _ (by simp [gloNames])
  have HAb : HasAbove P w K mg base (He.ga K "Ratio") (He.ga K "HandOver") (He.ga K "Swap") (He.ga K "BadSwap") (He.ga K "BadRow") (He.ga K "NoStranger") (He.ga K "Loser") := ⟨⟨_, duaboveuroad, guaboveuroad, Fuaboveuroad.kp, buaboveuroad, ok_above G R RS HCk HRT HSt NM RM rLoser AZ RS_ RM_ IMu MOv Fuaboveuroad⟩⟩
  obtain ⟨duleastuplace, Fuleastuplace⟩ := sd.def_ 52
  replace Fuleastuplace : DefAt K "_least_place" "_least_place" sLeast (He.ga K "_least_place") duleastuplace := Fuleastuplace
  have buleastuplace : Binds K duleastuplace ["ratios"] [] := Fuleastuplace.bindsN (fun _ _ _ _ _ _ us hl => match us, hl with | [_], _ => rfl)
  have guleastuplace : mg "_least_place" = some (.ref (He.ga K "_least_place")) := gl _ (by simp [gloNames])
  have HLe : HasLeast P w K mg base (He.ga K "Ratio") := ⟨⟨_, duleastuplace, guleastuplace, Fuleastuplace.kp, buleastuplace, ok_least G R MBe Fuleastuplace⟩⟩
  obtain ⟨dspared, Fspared⟩ := sd.def_ 49
  replace Fspared : DefAt K "spared" "spared" sSpared (He.ga K "spared") dspared := Fspared
  have bspared : Binds K dspared ["swap", "row", "name"] [] := Fspared.bindsN (fun _ _ _ _ _ _ us hl => match us, hl with | [_, _, _], _ => rfl)
  have gspared : mg "spared" = some (.ref (He.ga K "spared")) := gl _ (by simp [gloNames])
  obtain ⟨dbounduto, Fbounduto⟩ := sd.def_ 50
  replace Fbounduto : DefAt K "bound_to" "bound_to" sBound (He.ga K "bound_to") dbounduto := Fbounduto
  have bbounduto : Binds K dbounduto ["swap", "row", "name"] [] := Fbounduto.bindsN (fun _ _ _ _ _ _ us hl => match us, hl with | [_, _, _], _ => rfl)
  have gbounduto : mg "bound_to" = some (.ref (He.ga K "bound_to")) := gl _ (by simp [gloNames])
  have oS := ok_spared HAb HLe HBA Fspared
  have oB := ok_bound R HAb HLe HBA RNF Fbounduto
  have HAs : HasAsk P w K mg base (He.ga K "Ratio") (He.ga K "HandOver") (He.ga K "Swap") (He.ga K "BadSwap") (He.ga K "BadRow") (He.ga K "NoStranger") (He.ga K "Loser") := ⟨⟨⟨_, dspared, gspared, Fspared.kp, bspared, oS⟩⟩, ⟨⟨_, dbounduto, gbounduto, Fbounduto.kp, bbounduto, oB⟩⟩⟩
  have KB : KBn K dbounduto ["swap", "row", "name"] 0 ["swap", "row", "name"] (fun _ ws => ws) (fun _ zs => zs) := kb_of Fbounduto (fun _ _ _ _ _ _ us ws hl hw => match us, ws, hl, hw with | [], [_, _, _], _, _ => rfl) fun _ r => r
  have HKb : HasKw P w K mg base (L2.CX P w) 11 "bound_to" ["swap", "row", "name"] (spAsk K (He.ga K "Ratio") (He.ga K "HandOver") (He.ga K "Swap") (He.ga K "BadSwap") (He.ga K "BadRow") (He.ga K "NoStranger") (He.ga K "Loser") negs) := ⟨⟨_, dbounduto, _, gbounduto, Fbounduto.kp, KB, oB⟩⟩
  have KG : KBn K dbegunuat ["row", "start"] 1 ["start"] (fun us ws => us ++ ws) (fun vs zs => vs ++ zs) := kb_of Fbegunuat (fun _ _ _ _ _ _ us ws hl hw => match us, ws, hl, hw with | [_], [_], _, _ => rfl) fun a b => a.append b
  have HKg : HasKwN P w K mg base (L2.CX P w) 4 "begun_at" ["row", "start"] ["start"] 1 (fun vs zs => vs ++ zs) (spBegunAt K (He.ga K "BadRow") (He.ga K "BadNumber")) := ⟨⟨_, dbegunuat, _, gbegunuat, Fbegunuat.kp, KG, ok_begunAt G HAI HWi rBadRow rBadNumber Fbegunuat⟩⟩
  obtain ⟨dulawuvane, Fulawuvane⟩ := sd.def_ 53
  replace Fulawuvane : DefAt K "_law_vane" "_law_vane" sVane (He.ga K "_law_vane") dulawuvane := Fulawuvane
  have bulawuvane : Binds K dulawuvane ["_law_script"] [] := Fulawuvane.bindsN (fun _ _ _ _ _ _ us hl => match us, hl with | [_], _ => rfl)
  have gulawuvane : mg "_law_vane" = some (.ref (He.ga K "_law_vane")) := gl _ (by simp [gloNames])
  have HPen : Has P w K mg base CX0 1 "_law_vane" ["_law_script"] (spPen K) := ⟨⟨_, dulawuvane, gulawuvane, Fulawuvane.kp, bulawuvane, ok_pen G Fulawuvane⟩⟩
  obtain ⟨dulawublow, Fulawublow⟩ := sd.def_ 54
  replace Fulawublow : DefAt K "_law_blow" "_law_blow" sBlow (He.ga K "_law_blow") dulawublow := Fulawublow
  have bulawublow : Binds K dulawublow ["_law_vane_here", "_law_many"] [] := Fulawublow.bindsN (fun _ _ _ _ _ _ us hl => match us, hl with | [_, _], _ => rfl)
  have gulawublow : mg "_law_blow" = some (.ref (He.ga K "_law_blow")) := gl _ (by simp [gloNames])
  have HT : HasBlow P w K mg base := ⟨⟨_, dulawublow, gulawublow, Fulawublow.kp, bulawublow, ok_draw G Fulawublow⟩⟩
  obtain ⟨dulawusome, Fulawusome⟩ := sd.def_ 55
  replace Fulawusome : DefAt K "_law_some" "_law_some" sSome (He.ga K "_law_some") dulawusome := Fulawusome
  have bulawusome : Binds K dulawusome ["_law_vane_here", "_law_some_here"] [] := Fulawusome.bindsN (fun _ _ _ _ _ _ us hl => match us, hl with | [_, _], _ => rfl)
  have gulawusome : mg "_law_some" = some (.ref (He.ga K "_law_some")) := gl _ (by simp [gloNames])
  have HPi : HasSome P w K mg base := ⟨⟨_, dulawusome, gulawusome, Fulawusome.kp, bulawusome, ok_some G HT Fulawusome⟩⟩
  obtain ⟨dulawudrawn, Fulawudrawn⟩ := sd.def_ 56
  replace Fulawudrawn : DefAt K "_law_drawn" "_law_drawn" sDrawn (He.ga K "_law_drawn") dulawudrawn := Fulawudrawn
  have bulawudrawn : Binds K dulawudrawn ["_law_vane_here"] [] := Fulawudrawn.bindsN (fun _ _ _ _ _ _ us hl => match us, hl with | [_], _ => rfl)
  have gulawudrawn : mg "_law_drawn" = some (.ref (He.ga K "_law_drawn")) := gl _ (by simp [gloNames])
  have HDr : Has P w K mg base CX0 3 "_law_drawn" ["_law_vane_here"] spDrawn := ⟨⟨_, dulawudrawn, gulawudrawn, Fulawudrawn.kp, bulawudrawn, ok_drawn G HT HPi Fulawudrawn⟩⟩
  obtain ⟨dulawumade, Fulawumade⟩ := sd.def_ 57
  replace Fulawumade : DefAt K "_law_made" "_law_made" sMade (He.ga K "_law_made") dulawumade := Fulawumade
  have bulawumade : Binds K dulawumade ["_law_names", "_law_unit", "_law_hands"] [] := Fulawumade.bindsN (fun _ _ _ _ _ _ us hl => match us, hl with | [_, _, _], _ => rfl)
  have gulawumade : mg "_law_made" = some (.ref (He.ga K "_law_made")) := gl _ (by simp [gloNames])
  have HMa : HasMade P w K mg base (He.ga K "Ratio") (He.ga K "HandOver") (He.ga K "Swap") := ⟨⟨_, dulawumade, gulawumade, Fulawumade.kp, bulawumade, ok_made MR MH MS Fulawumade⟩⟩
  obtain ⟨dulawualong, Fulawualong⟩ := sd.def_ 58
  replace Fulawualong : DefAt K "_law_along" "_law_along" sLAlong (He.ga K "_law_along") dulawualong := Fulawualong
  have bulawualong : Binds K dulawualong ["_law_hands", "_law_row", "_law_place"] [] := Fulawualong.bindsN (fun _ _ _ _ _ _ us hl => match us, hl with | [_, _, _], _ => rfl)
  have gulawualong : mg "_law_along" = some (.ref (He.ga K "_law_along")) := gl _ (by simp [gloNames])
  have HLA : HasLAlong P w K mg base := ⟨⟨_, dulawualong, gulawualong, Fulawualong.kp, bulawualong, ok_lalong Fulawualong⟩⟩
  obtain ⟨dulawuorder, Fulawuorder⟩ := sd.def_ 59
  replace Fulawuorder : DefAt K "_law_order" "_law_order" sOrder (He.ga K "_law_order") dulawuorder := Fulawuorder
  have bulawuorder : Binds K dulawuorder ["_law_vane_here", "_law_many"] [] := Fulawuorder.bindsN (fun _ _ _ _ _ _ us hl => match us, hl with | [_, _], _ => rfl)
  have gulawuorder : mg "_law_order" = some (.ref (He.ga K "_law_order")) := gl _ (by simp [gloNames])
  have HOr : HasOrder P w K mg base := ⟨⟨_, dulawuorder, gulawuorder, Fulawuorder.kp, bulawuorder, ok_order G HT Fulawuorder⟩⟩
  obtain ⟨dulawubegun, Fulawubegun⟩ := sd.def_ 60
  replace Fulawubegun : DefAt K "_law_begun" "_law_begun" sLBegun (He.ga K "_law_begun") dulawubegun := Fulawubegun
  have bulawubegun : Binds K dulawubegun ["_law_row", "_law_at"] [] := Fulawubegun.bindsN (fun _ _ _ _ _ _ us hl => match us, hl with | [_, _], _ => rfl)
  have gulawubegun : mg "_law_begun" = some (.ref (He.ga K "_law_begun")) := gl _ (by simp [gloNames])
  have HLG : HasLBegun P w K mg base := ⟨⟨_, dulawubegun, gulawubegun, Fulawubegun.kp, bulawubegun, ok_lbegun G Fulawubegun⟩⟩
  obtain ⟨dulawuplaces, Fulawuplaces⟩ := sd.def_ 61
  replace Fulawuplaces : DefAt K "_law_places" "_law_places" sPlaces (He.ga K "_law_places") dulawuplaces := Fulawuplaces
  have bulawuplaces : Binds K dulawuplaces ["_law_hands", "_law_row", "_law_place"] [] := Fulawuplaces.bindsN (fun _ _ _ _ _ _ us hl => match us, hl with | [_, _, _], _ => rfl)
  have gulawuplaces : mg "_law_places" = some (.ref (He.ga K "_law_places")) := gl _ (by simp [gloNames])
  have HPl : HasPlaces P w K mg base := ⟨⟨_, dulawuplaces, gulawuplaces, Fulawuplaces.kp, bulawuplaces, ok_places G HLA Fulawuplaces⟩⟩
  obtain ⟨dulawustrangeruright, Fulawustrangeruright⟩ := sd.def_ 62
  replace Fulawustrangeruright : DefAt K "_law_stranger_right" "_law_stranger_right" sStrRight (He.ga K "_law_stranger_right") dulawustrangeruright := Fulawustrangeruright
  have bulawustrangeruright : Binds K dulawustrangeruright ["_law_swap", "_law_hands", "_law_row", "_law_name", "_law_place"] [] := Fulawustrangeruright.bindsN (fun _ _ _ _ _ _ us hl => match us, hl with | [_, _, _, _, _], _ => rfl)
  have gulawustrangeruright : mg "_law_stranger_right" = some (.ref (He.ga K "_law_stranger_right")) := gl _ (by simp [gloNames])
  have HSR : HasQ P w K mg base 12 "_law_stranger_right" ["_law_swap", "_law_hands", "_law_row", "_law_name", "_law_place"] (spStrR (He.ga K "Ratio") (He.ga K "HandOver") (He.ga K "Swap")) := ⟨⟨_, dulawustrangeruright, gulawustrangeruright, Fulawustrangeruright.kp, bulawustrangeruright, ok_strR G HAs.s HKb HPl HLG HLA Fulawustrangeruright⟩⟩
  obtain ⟨dulawufault, Fulawufault⟩ := sd.def_ 63
  replace Fulawufault : DefAt K "_law_fault" "_law_fault" sFault (He.ga K "_law_fault") dulawufault := Fulawufault
  have bulawufault : Binds K dulawufault ["_law_ask"] [] := Fulawufault.bindsN (fun _ _ _ _ _ _ us hl => match us, hl with | [_], _ => rfl)
  have gulawufault : mg "_law_fault" = some (.ref (He.ga K "_law_fault")) := gl _ (by simp [gloNames])
  have HF : HasFault K mg (He.ga K "BadSwap") (He.ga K "BadRow") (He.ga K "BadNumber") (He.ga K "NoStranger") (He.ga K "Loser") := ⟨⟨_, dulawufault, gulawufault, Fulawufault⟩, FLT⟩
  obtain ⟨dulawubadurow, Fulawubadurow⟩ := sd.def_ 64
  replace Fulawubadurow : DefAt K "_law_bad_row" "_law_bad_row" sBadRow (He.ga K "_law_bad_row") dulawubadurow := Fulawubadurow
  have bulawubadurow : Binds K dulawubadurow ["_law_vane_here", "_law_many"] [] := Fulawubadurow.bindsN (fun _ _ _ _ _ _ us hl => match us, hl with | [_, _], _ => rfl)
  have gulawubadurow : mg "_law_bad_row" = some (.ref (He.ga K "_law_bad_row")) := gl _ (by simp [gloNames])
  have HBR : Has P w K mg base CX0 3 "_law_bad_row" ["_law_vane_here", "_law_many"] (spBadRow K) := ⟨⟨_, dulawubadurow, gulawubadurow, Fulawubadurow.kp, bulawubadurow, ok_badRow G HPi Fulawubadurow⟩⟩
  obtain ⟨dulawurefuseduright, Fulawurefuseduright⟩ := sd.def_ 65
  replace Fulawurefuseduright : DefAt K "_law_refused_right" "_law_refused_right" sRefused (He.ga K "_law_refused_right") dulawurefuseduright := Fulawurefuseduright
  have bulawurefuseduright : Binds K dulawurefuseduright ["_law_vane_here", "_law_swap", "_law_row"] [] := Fulawurefuseduright.bindsN (fun _ _ _ _ _ _ us hl => match us, hl with | [_, _, _], _ => rfl)
  have gulawurefuseduright : mg "_law_refused_right" = some (.ref (He.ga K "_law_refused_right")) := gl _ (by simp [gloNames])
  have HRf : HasQ P w K mg base 15 "_law_refused_right" ["_law_vane_here", "_law_swap", "_law_row"] (spRefused (TT K) (He.ga K "Ratio") (He.ga K "HandOver") (He.ga K "Swap")) := ⟨⟨_, dulawurefuseduright, gulawurefuseduright, Fulawurefuseduright.kp, bulawurefuseduright, ok_refused G OD R MR HPi HBR LO HAs HBA HKg HF TB (.head _) u1 (defC_of Fulawurefuseduright)⟩⟩
  obtain ⟨dulawuloses, Fulawuloses⟩ := sd.def_ 66
  replace Fulawuloses : DefAt K "_law_loses" "_law_loses" sLoses (He.ga K "_law_loses") dulawuloses := Fulawuloses
  have bulawuloses : Binds K dulawuloses ["_law_swap", "_law_row", "_law_name"] [] := Fulawuloses.bindsN (fun _ _ _ _ _ _ us hl => match us, hl with | [_, _, _], _ => rfl)
  have gulawuloses : mg "_law_loses" = some (.ref (He.ga K "_law_loses")) := gl _ (by simp [gloNames])
  have HLo : HasQ P w K mg base 15 "_law_loses" ["_law_swap", "_law_row", "_law_name"] (spLoses (TT K) (He.ga K "Ratio") (He.ga K "HandOver") (He.ga K "Swap")) := ⟨⟨_, dulawuloses, gulawuloses, Fulawuloses.kp, bulawuloses, ok_loses HAs HF TL (.tail _ (.head _)) u2 (defC_of Fulawuloses)⟩⟩
  obtain ⟨dulawupairuright, Fulawupairuright⟩ := sd.def_ 67
  replace Fulawupairuright : DefAt K "_law_pair_right" "_law_pair_right" sPair (He.ga K "_law_pair_right") dulawupairuright := Fulawupairuright
  have bulawupairuright : Binds K dulawupairuright ["_law_vane_here", "_law_names", "_law_unit", "_law_hands"] [] := Fulawupairuright.bindsN (fun _ _ _ _ _ _ us hl => match us, hl with | [_, _, _, _], _ => rfl)
  have gulawupairuright : mg "_law_pair_right" = some (.ref (He.ga K "_law_pair_right")) := gl _ (by simp [gloNames])
  have HPr : Has P w K mg base CX0 12 "_law_pair_right" ["_law_vane_here", "_law_names", "_law_unit", "_law_hands"] spPair := ⟨⟨_, dulawupairuright, gulawupairuright, Fulawupairuright.kp, bulawupairuright, ok_pair G HAs HMa HOr Fulawupairuright⟩⟩
  obtain ⟨dlaw, Flaw⟩ := sd.def_ 68
  replace Flaw : DefAt K "law" "law" sLaw (He.ga K "law") dlaw := Flaw
  have blaw : Binds K dlaw ["_law_script"] [] := Flaw.bindsN (fun _ _ _ _ _ _ us hl => match us, hl with | [_], _ => rfl)
  have glaw : mg "law" = some (.ref (He.ga K "law")) := gl _ (by simp [gloNames])
  have LH : LawH44 P w K mg base (TT K) (He.ga K "Ratio") (He.ga K "HandOver") (He.ga K "Swap") (He.ga K "BadRow") (He.ga K "BadNumber") := ⟨HPen, HDr, HMa, HOr, HT, HLA, HSR, HLo, HBA, HLG, HRf, HPr⟩
  exact ⟨dlaw, Flaw, ok_law44 G LH Flaw⟩
end
end K5

/-! k44: the end of a law whose def asks that nothing below be shown. -/
namespace K5
open PySem PySem.Spec PyProof.Rows L2 LamX K1 K18

/-- where the law's call begins: the tables, and the script if no one knows it -/
def startH (K : PySem.W.Frag) (Ts : List Addr) (a : Addr) (o : Obj) (xs : List V) : Hp := fun b => if b ∈ Ts then some (.tbl #[]) else if b = a ∧ K.lookup a = none then some (.frz o (.lst xs)) else none
section
variable {K : PySem.W.Frag} {Ts : List Addr} {a b : Addr} {o : Obj} {xs : List V}
theorem startH_T (m : b ∈ Ts) : startH K Ts a o xs b = some (.tbl #[]) := if_pos m
theorem startH_a (n : a ∉ Ts) (k : K.lookup a = none) : startH K Ts a o xs a = some (.frz o (.lst xs)) := by unfold startH; rw [if_neg n, if_pos ⟨rfl, k⟩]
theorem startH_no (n : b ∉ Ts) (k : ¬ (b = a ∧ K.lookup a = none)) : startH K Ts a o xs b = none := by unfold startH; rw [if_neg n, if_neg k]
theorem startH_is {u : HO} (e : startH K Ts a o xs b = some u) : (b ∈ Ts ∧ u = .tbl #[]) ∨ (b = a ∧ K.lookup a = none ∧ u = .frz o (.lst xs)) := by
  by_cases m : b ∈ Ts
  · rw [startH_T m] at e; exact .inl ⟨m, (Option.some.inj e).symm⟩
  by_cases k : b = a ∧ K.lookup a = none
  · unfold startH at e
    rw [if_neg m, if_pos k] at e
    exact .inr ⟨k.1, k.2, (Option.some.inj e).symm⟩
  · rw [startH_no m k] at e; cases e
end
theorem law_callG {P : Program} {w : World} {K : PySem.W.Frag} {mg mb : Str → Option Value} {k : Nat} {fa a : Addr} {cs : List (Addr × Addr)} {fd : FuncData} {x : Str} {sp : Sp} {s : Shared} {vs : List Value} {ns : List Int}
    (inH : K.In s.heap) (mainN : s.heap.Ns mainGlobals mg) (bootN : s.heap.Ns builtinsNs mb) (boots : ∀ y : Str, y ≠ "__name__" → mb y = bootBuiltins y) (lim : s.heap.NoLimit) (noG : s.gens = #[])
    (tabs : ∀ p ∈ cs, s.heap.get? p.2 = some { cls := .none, data := .fields #[] }) (tabK : ∀ p ∈ cs, K.lookup p.2 = none) (heads : ∀ p ∈ cs, PySem.W.CodeHd s.heap p.1 p.2)
    (bmod : ∃ (bm : Addr) (ob : Obj), mg "__builtins__" = some (.ref bm) ∧ bm ≠ builtinsNs ∧ s.heap.get? bm = some ob ∧ ob.cls = .type "module" ∧ ob.dict = some builtinsNs ∧ ob.data = .plain)
    (scr : s.heap.get? a = some { cls := .type "list", data := .seq vs.toArray }) (isI : IntsAre vs ns) (few : ns.length ≤ sizeLine) (room : Room k callerA)
    (F : ∀ base : Heap, K.In base → base.Ns mainGlobals mg → (∀ p ∈ cs, TabB base mg p.1 p.2) → FnG P w K mg base CX0 k fa fd [x] sp) (binds : ∀ (t : Shared) (u : Value), BindsTo t fd ⟨[u], []⟩ [(x, u)])
    (law : ∀ H : Hp, (∀ p ∈ cs, H p.2 = some (.tbl #[])) → SqL K H a (ns.map V.int) → sp [.ref a] H (fun v _ => v = .bl true) E0) :
    codeAny (model P w) callerA (.call (.ref fa) ⟨[.ref a], []⟩) (fun r t => r = .ok (.ret (.bool true)) ∧ OldK s.heap t.heap ∧ t.os = s.os ∧ AllBare t.gens) s := by
  have rel := vals_ints isI
  obtain ⟨Ts, eT⟩ : ∃ Ts, Ts = cs.map Prod.snd := ⟨_, rfl⟩
  have inTs : ∀ p ∈ cs, p.2 ∈ Ts := fun p m => by rw [eT]; exact List.mem_map_of_mem m
  have ofTs : ∀ b ∈ Ts, ∃ p ∈ cs, p.2 = b := fun b m => by rw [eT] at m; exact List.mem_map.mp m
  have atTs : ∀ b ∈ Ts, s.heap.get? b = some { cls := .none, data := .fields #[] } := fun b m => by
    obtain ⟨p, mp, rfl⟩ := ofTs b m
    exact tabs p mp
  have aT : a ∉ Ts := fun m => by
    have z := (atTs a m).symm.trans scr
    injection z with z
    injection z with _ _ z
    cases z
  obtain ⟨H, eH⟩ : ∃ H, H = startH K Ts a { cls := .type "list", data := .seq vs.toArray } (ns.map V.int) := ⟨_, rfl⟩
  have seen : ∀ (b : Addr) (o : Obj), s.heap.get? b = some o → b ∉ Ts → ¬ (b = a ∧ K.lookup a = none) → (hidT s.heap H).get? b = some o := fun b o e n1 n2 => hidT_get e (by rw [eH]; exact startH_no n1 n2)
  have plain : ∀ (b : Addr) (o : Obj), s.heap.get? b = some o → o.data ≠ .seq vs.toArray → o.data ≠ .fields #[] → (hidT s.heap H).get? b = some o := fun b o e n1 n2 => seen b o e
    (fun m => n2 (congrArg Obj.data (Option.some.inj (e.symm.trans (atTs b m))))) fun z => n1 (congrArg Obj.data (Option.some.inj (e.symm.trans (by rw [z.1]; exact scr))))
  have space : ∀ {b : Addr} {m : Str → Option Value}, s.heap.Ns b m → (hidT s.heap H).Ns b m := fun ⟨o, es, ep, e, d, r⟩ => ⟨o, es, ep, plain _ o e (by rw [d]; exact fun z => nomatch z) (by rw [d]; exact fun z => nomatch z), d, r⟩
  have inB : K.In (hidT s.heap H) := fun b o e => seen b o (inH b o e) (fun m => by
    obtain ⟨p, mp, rfl⟩ := ofTs b m
    rw [tabK p mp] at e; cases e) fun z => by rw [z.1, z.2] at e; cases e
  have okH : HOk P w H s.heap := fun b u e => by
    rw [eH] at e
    rcases startH_is e with ⟨m, rfl⟩ | ⟨rfl, _, rfl⟩
    · exact atTs b m
    · exact ⟨scr, by rw [List.length_map]; exact few, vs, _, rel, scr⟩
  have tbs : ∀ p ∈ cs, TabB (hidT s.heap H) mg p.1 p.2 := fun p mp => by
    have atp := tabs p mp
    obtain ⟨bm, ob, b1, b2, b3, b4, b5, b6⟩ := bmod
    obtain ⟨oc, fs, file, tf, flags, tg, inF, text, tt, e1, e2, e3, e4, e5, e6, e7, e8, e9, e10⟩ := heads p mp
    have nm : mainGlobals ≠ p.2 := fun z => by
      obtain ⟨o, es, ep, e, d, _⟩ := mainN
      rw [z, atp] at e
      cases e; cases d
    refine ⟨⟨oc, fs, file, tf, flags, tg, inF, text, tt, plain _ oc e1 (by rw [e3]; exact fun z => nomatch z) (fun z => ?_), e2, e3, e4, e5, e6, e7, e8, e9, e10⟩, ⟨bm, ob, b1, b2, fun z => ?_, fun z => ?_, plain _ ob b3 (by rw [b6]; exact fun z => nomatch z) (by rw [b6]; exact fun z => nomatch z), b4, b5, b6⟩, nm⟩
    · rw [e3] at z
      injection z with z
      rw [z] at e4
      simp at e4
    · obtain ⟨o, es, ep, e, d, _⟩ := mainN
      rw [← z, b3] at e
      cases e
      rw [b6] at d; cases d
    · rw [z, atp] at b3
      cases b3; cases b6
  have seqA : SqL K H a (ns.map V.int) := by
    cases hk : K.lookup a with
    | none => exact .inl (.inr ⟨_, by rw [eH]; exact startH_a aT hk⟩)
    | some o =>
      have e := (inH a o hk).symm.trans scr
      injection e with e
      subst e
      exact .inr ⟨_, vs.toArray, _, hk, rfl, rfl, rfl, by rw [List.size_toArray, isI.length]; exact few, by simpa using rel⟩
  have tabH : ∀ p ∈ cs, H p.2 = some (.tbl #[]) := fun p mp => by rw [eH]; exact startH_T (inTs p mp)
  have env : Env0 P w K mg (hidT s.heap H) callerA [] s H := ⟨rfl, ⟨inB, space mainN, ⟨mb, space bootN, boots⟩, let ⟨mc, h1, h2⟩ := lim; ⟨mc, space h1, h2⟩⟩, fun b o e => of_hidT e, Nat.le_of_eq (hidT_size _ _), trivial, fun b m => (List.not_mem_nil m).elim, okH, .of_eq noG⟩
  refine codeAny_mono ((F _ inB (space mainN) tbs).go callerA [] s H ⟨[.ref a], []⟩ [.ref a] [.ref a] _ _ rfl room env (binds s (.ref a)) (.cons rfl .nil) (law H tabH seqA)) fun r t out => ?_
  rcases r with err | fl
  · exact (show False from out).elim
  cases fl with
  | ret u =>
    obtain ⟨v, H', os, bare, un, ok', rv, rfl⟩ := out
    obtain rfl : u = Value.bool true := rv
    have stay : ∀ b o, b ∉ Ts → s.heap.get? b = some o → t.heap.get? b = some o := fun b o nb e => by
      by_cases kn : b = a ∧ K.lookup a = none
      · have z : H b = some (.frz { cls := .type "list", data := .seq vs.toArray } (.lst (ns.map V.int))) := by rw [kn.1, eH]; exact startH_a aT kn.2
        obtain ⟨y1, _⟩ := okH b _ z
        obtain ⟨y2, _⟩ := ok' b _ (un.frzs b _ _ z)
        rw [y1] at e
        cases e
        exact y2
      · exact un.keep b o e (by rw [eH]; exact startH_no nb kn) (fun m => (List.not_mem_nil m).elim) (by simp)
    have more : ∀ p ∈ cs, ∃ vs2 : Array Value, t.heap.get? p.2 = some { cls := .none, data := .fields vs2 } := fun p mp => by
      obtain ⟨vs2, z⟩ := un.tbls p.2 #[] (tabH p mp)
      exact ⟨_, ok' p.2 _ z⟩
    refine ⟨rfl, ⟨fun b o e => ?_, fun b o e => ?_⟩, os, bare⟩ <;> by_cases m : b ∈ Ts
    · obtain ⟨p, mp, rfl⟩ := ofTs b m
      obtain ⟨vs2, z⟩ := more p mp
      rw [tabs p mp] at e
      cases e
      exact .inr (.inl ⟨((heads p mp).tab (tabs p mp)).isCodeTable, rfl, #[], vs2, rfl, by rw [z, Array.empty_append]⟩)
    · exact .inl (stay b o m e)
    · obtain ⟨p, mp, rfl⟩ := ofTs b m
      exact let ⟨_, z⟩ := more p mp; ⟨_, z⟩
    · exact ⟨o, stay b o m e⟩
  | next => exact (show False from out).elim
  | brk => exact (show False from out).elim
  | cont => exact (show False from out).elim
end K5

namespace K5
open PySem PySem.Spec PyProof.Rows L2 LamX K1 K18
theorem factAll_ok {K : PySem.W.Frag} (h : factAll K = true) : Facts K := by
  obtain ⟨a0, h⟩ := He.ba h
  obtain ⟨a1, h⟩ := He.ba h
  obtain ⟨a2, h⟩ := He.ba h
  obtain ⟨a3, h⟩ := He.ba h
  obtain ⟨a4, h⟩ := He.ba h
  obtain ⟨a5, a6⟩ := He.ba h
  exact facts_of a0 a1 a2 a3 a4 a5 a6
/-- a table of lambdas, empty yet -/
structure TabF (K : PySem.W.Frag) (h : Heap) (c T : Addr) : Prop where
  hd : PySem.W.codeHdIn K c T = true
  no : K.lookup T = none
  at_ : h.get? T = some { cls := .none, data := .fields #[] }
theorem tab1_ok {h : Heap} {l : List Addr} {c T : Addr} (e : tab1 h.get? (He.frT h.get? l) c T = true) : TabF (He.frT h.get? l) h c T := by
  obtain ⟨h1, h2⟩ := He.ba e
  cases q : h.get? T with
  | none => rw [q] at h2; cases h2
  | some o =>
    rw [q] at h2
    exact ⟨h1, He.frT_none q h2, by rw [q, He.emptyTab_eq h2]⟩
/-- what the opened module tells, of its objects and of the tables -/
def Told1 (h : Heap) : Prop := ∃ K : PySem.W.Frag, K.In h ∧ Facts K ∧ He5.SaysA [] fns K ∧ TabF K h (cR K) (tR K) ∧ TabF K h (cL K) (tL K)
theorem told1_of {h : Heap} (e1 : factAll (He.frT h.get? adl) = true) (e2 : He5.obsA [] fns (He.frT h.get? adl) = He5.valA fns) (e3 : tabE h.get? (He.frT h.get? adl) = true) : Told1 h := by
  exact ⟨_, He.frT_in, factAll_ok e1, e2, tab1_ok (He.ba e3).1, tab1_ok (He.ba e3).2⟩
def hk : PySem.W.Hook where
  α := Bool × He.AlD × Bool
  obs := fun s => (factAll (He.frT s.heap.get? adl), He5.obsA [] fns (He.frT s.heap.get? adl), tabE s.heap.get? (He.frT s.heap.get? adl))
  val := fun _ => (true, He5.valA fns, true)
  says := fun _ h => Told1 h
  of := fun _ _ e => told1_of (congrArg (fun z : Bool × He.AlD × Bool => z.1) e) (congrArg (fun z : Bool × He.AlD × Bool => z.2.1) e) (congrArg (fun z : Bool × He.AlD × Bool => z.2.2) e)
  keeps := fun _ _ _ ⟨K, hK, c1, c2, c3, c4⟩ k => ⟨K, PySem.W.Frag.In.keeps hK k, c1, c2, ⟨c3.hd, c3.no, k _ _ c3.at_⟩, ⟨c4.hd, c4.no, k _ _ c4.at_⟩⟩
def ob (s : PySem.W.SharedT) : Bool × He.AlD × Bool := (factAll (oF s), He5.obsA [] fns (oF s), tabE (HandSHeadRun.getT s) (oF s))
theorem ob_eq (s : PySem.W.SharedT) : ob s = hk.obs s.abs := by
  have e : HandSHeadRun.getT s = s.abs.heap.get? := funext (HandSHeadRun.getT_eq s)
  unfold ob oF
  rw [e]
  rfl
theorem run (w : World) : HandSHeadRun.RunEqI RR (PySem.W.view RR.prog [0, 84]) hk ob 40000 loose w := by
  unfold HandSHeadRun.RunEqI
  exact runAll w
/-- the walk's end, with some tables -/
theorem walkT {l : PySem.W.OpenLaw} {n k : Nat} {q : Program} {loose : List Str} {XP : (Str → Option Value) → Heap → Prop} {YP : World → Heap → Prop} {d : DefRec} {x : Str}
    (m1 : l.most = some n) (m2 : n ≤ sizeLine) (m3 : d.params.defaults = []) (m4 : Room k callerA)
    (F : ∀ (w : World) (mg : Str → Option Value) (fa : Addr) (h : Heap), YP w h → h.Ns mainGlobals mg → mg d.name = some (.ref fa) →
      ∃ (K : PySem.W.Frag) (fd : FuncData) (sp : Sp) (cs : List (Addr × Addr)), K.In h ∧ (∀ p ∈ cs, h.get? p.2 = some { cls := .none, data := .fields #[] }) ∧ (∀ p ∈ cs, K.lookup p.2 = none) ∧ (∀ p ∈ cs, PySem.W.CodeHd h p.1 p.2) ∧ (∀ (s : Shared) (u : Value), BindsTo s fd ⟨[u], []⟩ [(x, u)]) ∧
        (∀ (H : Hp) (a : Addr) (ns : List Int), ns.length ≤ n → (∀ p ∈ cs, H p.2 = some (.tbl #[])) → SqL K H a (ns.map V.int) → sp [.ref a] H (fun v _ => v = .bl true) fun _ _ _ => False) ∧
        ∀ base : Heap, K.In base → base.Ns mainGlobals mg → (∀ p ∈ cs, TabB base mg p.1 p.2) → FnG l.prog w K mg base CX0 k fa fd [x] sp) :
    PySem.W.WalkO q loose XP YP l.row.toRowW d [] (fun f vs => PySem.call f vs) := by
  refine Att.attach_call m1 m3 fun w u0 u1 mg mb fa ob pm cd doc aa vs ns GG YY g1 g2 g3 g4 g5 g6 g7 g8 => ?_
  obtain ⟨K, fd, sp, cs, k1, k2, k3, k4, k5, k6, k7⟩ := F w mg fa _ YY GG.T.g g4
  exact law_callG (cs := cs) k1 GG.T.g GG.T.b GG.T.builtins GG.T.nolimit g8 k2 k3 k4 GG.T.bmain g5 g6 (Nat.le_trans g7 m2) m4 (fun bb b1 b2 b3 => k7 bb b1 b2 b3) k5 fun HH tt ss => k6 HH aa ns g7 tt ss
theorem ends44 {l : PySem.W.OpenLaw} {w : World} {mg : Str → Option Value} {fa : Addr} {h : Heap} (t : Told1 h) (Nh : h.Ns mainGlobals mg) (em : mg ("law" : Str) = some (.ref fa)) :
    ∃ (K : PySem.W.Frag) (fd : FuncData) (sp : Sp) (cs : List (Addr × Addr)), K.In h ∧ (∀ p ∈ cs, h.get? p.2 = some { cls := .none, data := .fields #[] }) ∧ (∀ p ∈ cs, K.lookup p.2 = none) ∧ (∀ p ∈ cs, PySem.W.CodeHd h p.1 p.2) ∧ (∀ (s : Shared) (u : Value), BindsTo s fd ⟨[u], []⟩ [("_law_script", u)]) ∧
        (∀ (H : Hp) (a : Addr) (ns : List Int), ns.length ≤ 63 → (∀ p ∈ cs, H p.2 = some (.tbl #[])) → SqL K H a (ns.map V.int) → sp [.ref a] H (fun v _ => v = .bl true) fun _ _ _ => False) ∧
        ∀ base : Heap, K.In base → base.Ns mainGlobals mg → (∀ p ∈ cs, TabB base mg p.1 p.2) → FnG l.prog w K mg base CX0 16 fa fd ["_law_script"] sp := by
  obtain ⟨K, c1, c2, c3, t1, t2⟩ := t
  have eg : mg ("law" : Str) = some (.ref (He.ga K "law")) := PySem.W.mg_of c1 Nh (He.eqO_ok (List.all_eq_true.mp c2.glo_ "law" (by simp [gloNames])))
  obtain rfl : He.ga K "law" = fa := by
    rw [eg] at em
    exact Value.ref.inj (Option.some.inj em)
  obtain ⟨fd, FL⟩ := c3.def_ 68
  replace FL : DefAt K "law" "law" sLaw (He.ga K "law") fd := FL
  have bL := FunD.bindsA (ps := ["_law_script"]) FL fun _ _ _ _ _ _ us hl => match us, hl with | [_], _ => rfl
  have each : ∀ {φ : Addr × Addr → Prop}, φ (cR K, tR K) → φ (cL K, tL K) → ∀ p ∈ [(cR K, tR K), (cL K, tL K)], φ p := fun h1 h2 p hp => by
    rcases List.mem_cons.mp hp with rfl | hp
    · exact h1
    · rw [List.mem_singleton.mp hp]; exact h2
  refine ⟨K, fd, spLaw K (TT K), [(cR K, tR K), (cL K, tL K)], c1, each t1.at_ t2.at_, each t1.no t2.no, each (PySem.W.codeHd_of_K c1 t1.hd) (PySem.W.codeHd_of_K c1 t2.hd), fun s u => bL s [u] rfl, fun H a ns z1 z2 z3 => ⟨a, ns, rfl, z3, z1, fun p hp => ?_, fun _ => rfl⟩, fun base XB NB TB => ?_⟩
  · have y1 := z2 (cR K, tR K) (.head _)
    have y2 := z2 (cL K, tL K) (.tail _ (.head _))
    rcases List.mem_cons.mp hp with rfl | hp
    · exact TabS.nil y1
    · rw [List.mem_singleton.mp hp]; exact TabS.nil y2
  · obtain ⟨fd2, FL2, ok⟩ := law_in (P := l.prog) (w := w) XB NB c2 c3 (TB (cR K, tR K) (.head _)) (TB (cL K, tL K) (.tail _ (.head _)))
    obtain ⟨oc, od, dV, kV, doc, pm, an, cdv, ct, osl, e1, l1, _⟩ := FL.ex
    obtain ⟨oc2, od2, dV2, kV2, doc2, pm2, an2, cdv2, ct2, osl2, e2, l2, _⟩ := FL2.ex
    have e3 : fd2 = fd := by
      rw [l1] at l2
      injection l2 with l2
      injection l2 with _ _ l3 _
      injection l3 with l3
      exact l3.symm
    rw [← e3]
    exact ok
end K5
open PySem PySem.W PySem.Calls PyProof.Rows
theorem PySem.Challenge.cw_lastgiver_k44_one_stranger_spared_of_all_holds : PySem.Challenge.rw_lastgiver_k44_one_stranger_spared_of_all.Holds := by
  w_on; o_law
  refine HandSHeadRun.head_imp (r := K5.RR) (q := view K5.RR.prog [0, 84]) (H := K5.hk) (ob := K5.ob) (M := 40000) (loose := K5.loose) (d := HandSHeadRun.topDef K5.RR.prog 84) (kwd := []) K5.ob_eq
    K5.run (by kernel_rfl) (by kernel_rfl) (by kernel_rfl) (by rfl) (by first | assumption | decide +kernel) (by decide +kernel) ⟨rfl, rfl, rfl, rfl, rfl, by decide +kernel⟩ ?hw ?hc
  case hw => w_witness2
  case hc =>
    refine K5.walkT (l := PySem.Challenge.rw_lastgiver_k44_one_stranger_spared_of_all) (n := 63) (k := 16) (x := "_law_script") rfl (by decide) (by kernel_rfl) ⟨rfl, by decide, by decide⟩ ?F
    intro w mg fa h Y Nh em
    have en : (HandSHeadRun.topDef K5.RR.prog 84).name = ("law" : PySem.Str) := by kernel_rfl
    rw [en] at em
    exact K5.ends44 (l := PySem.Challenge.rw_lastgiver_k44_one_stranger_spared_of_all) Y Nh em
