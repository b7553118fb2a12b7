import PyProof.Rows.All
import Wide.All
import OpenK.AllK
import Wide.FinOn
import HandS.Base
import HandS.Call
import HandS.List
import HandS.Exc
import HandS.ExcInit
import HandS.ExcField
import HandS.ExcIs
import HandS.ExcValue
import HandS.IsInst
import HandS.Words
import HandS.Defaults
import KE.KExcIs
import PyProof.ReprNest
import PyProof.ReprDict
import PyProof.ReprReads
import PyProof.StrHeap
import PyProof.CallFns
import KE.KCallOwn
import HandS.Dict
import PyProof.ReprHeadsEmpty
import HandS.Ends
import HandS.ForMost
import HandS.Wide
import HandS.Style
import HandS.Gcd
import HandS.FStr
import HandS.HeadHook1
import HandS.HeadHook2
import HandS.Walk
import HandS.Iter
import HandS.Head3
import KE.KStateDown
import Lean
import HandS.Head0
import HandS.Head1
import HandS.Head2
import PySem.Challenge.RW_lastgiver_k00_errors_keep_their_fields
set_option Elab.async false
set_option linter.all false
set_option maxRecDepth 100000
set_option maxHeartbeats 0
namespace K0
open PySem PySem.Spec PyProof.Rows L2
def loose0 : List PySem.Str := ["_wall", "LastError", "BadRatio", "BadHandOver", "BadSwap", "BadBounds", "BadLeanings", "BadDeal", "BadRow", "BadDone", "BadCounts", "BadDial", "BadWay", "BadKeeper", "BadKeepers", "BadLaid", "BadChoice", "BadBook", "BadStory", "BadShare", "BadPlay", "BadNumber", "BadPaper", "Missing", "NoStranger", "NoKeeper", "NoHand", "NoRow", "Twice"]
def loose1 : List PySem.Str := ["Unlike", "Loser", "Below", "Ring", "Ahead", "NotGood", "NoWay", "Objects", "NotEven", "NotTwo", "NotCoprime", "TooNarrow", "Beyond", "Alone", "Left", "Done", "Broken", "Leans", "Objected", "DrawnOut", "NoDeed", "TooMany", "BadText", "BadLine", "DIGITS", "MOST_DIGITS", "is_integer", "words_of", "check_end", "integer_in"]
def loose2 : List PySem.Str := ["Ratio", "_right", "is_ratio", "ratio_in", "_law_pail", "_law_dip", "_law_parts", "_law_parts_turned", "_law_others", "_law_others_named", "_law_one_field", "_law_fields", "_law_kin", "_law_stands_right", "_law_all_right"]
def loose : List PySem.Str := loose0 ++ loose1 ++ loose2
abbrev R : PySem.W.OpenRow := PySem.W.OpenLaw.row PySem.Challenge.rw_lastgiver_k00_errors_keep_their_fields
noncomputable abbrev wf (w : World) : Option (Shared × PySem.W.SharedT) := HandSHeadRun.wholeF (fun p => HandSHeadRun.stepQ (HandSHeadRun.denQ HandSHeadRun.tabQ) p w) HandSHeadRun.fenceQ 40000 R.prog
abbrev sq (s : Shared) : Bool := PySem.W.xlAt (PySem.W.view R.prog [0, 79]) [] s && PySem.W.recOk R.toRowW.records s
def top (i : Nat) : Stmt := PySem.Challenge.pw_lastgiver_k00_errors_keep_their_fields.main.body.getD i (.Pass ⟨0, 0, 0, 0⟩)
abbrev sIsInt : Stmt := top 58
abbrev sPail : Stmt := top 68
abbrev sDip : Stmt := top 69
abbrev sParts : Stmt := top 70
abbrev sPartsT : Stmt := top 71
abbrev sOthers : Stmt := top 72
abbrev sOthersN : Stmt := top 73
abbrev sOne : Stmt := top 74
abbrev sFields : Stmt := top 75
abbrev sKin : Stmt := top 76
abbrev sStands : Stmt := top 77
abbrev sAll : Stmt := top 78
abbrev sLaw : Stmt := top 79
abbrev sRInit : Stmt := inClass (top 63) 0
abbrev sRStr : Stmt := inClass (top 63) 10
abbrev sRRepr : Stmt := inClass (top 63) 11
/-- an error class: its name, the names of its own bases, its fields, its __init__'s qualified name, its place in the text -/
structure Ent where
  x : Str
  chain : List Str
  fl : List Str
  q : Str
  pl : Nat
abbrev Ent.st (e : Ent) : Stmt := inClass (top e.pl) 0
abbrev Ent.C (K : PySem.W.Frag) (e : Ent) : Addr := He.ga K e.x
abbrev eBadRatio : Ent := ⟨"BadRatio", ["LastError"], ["part"], "BadRatio.__init__", 4⟩
abbrev eBadHandOver : Ent := ⟨"BadHandOver", ["LastError"], ["part"], "BadHandOver.__init__", 5⟩
abbrev eBadSwap : Ent := ⟨"BadSwap", ["LastError"], ["part"], "BadSwap.__init__", 6⟩
abbrev eBadBounds : Ent := ⟨"BadBounds", ["LastError"], ["part"], "BadBounds.__init__", 7⟩
abbrev eBadLeanings : Ent := ⟨"BadLeanings", ["LastError"], ["part"], "BadLeanings.__init__", 8⟩
abbrev eBadDeal : Ent := ⟨"BadDeal", ["LastError"], ["part"], "BadDeal.__init__", 9⟩
abbrev eBadRow : Ent := ⟨"BadRow", ["LastError"], ["part"], "BadRow.__init__", 10⟩
abbrev eBadDone : Ent := ⟨"BadDone", ["LastError"], ["part"], "BadDone.__init__", 11⟩
abbrev eBadCounts : Ent := ⟨"BadCounts", ["LastError"], ["part"], "BadCounts.__init__", 12⟩
abbrev eBadDial : Ent := ⟨"BadDial", ["LastError"], ["part"], "BadDial.__init__", 13⟩
abbrev eBadWay : Ent := ⟨"BadWay", ["LastError"], ["part"], "BadWay.__init__", 14⟩
abbrev eBadKeeper : Ent := ⟨"BadKeeper", ["LastError"], ["part"], "BadKeeper.__init__", 15⟩
abbrev eBadKeepers : Ent := ⟨"BadKeepers", ["LastError"], ["part"], "BadKeepers.__init__", 16⟩
abbrev eBadLaid : Ent := ⟨"BadLaid", ["LastError"], ["part"], "BadLaid.__init__", 17⟩
abbrev eBadChoice : Ent := ⟨"BadChoice", ["LastError"], ["part"], "BadChoice.__init__", 18⟩
abbrev eBadBook : Ent := ⟨"BadBook", ["LastError"], ["part"], "BadBook.__init__", 19⟩
abbrev eBadStory : Ent := ⟨"BadStory", ["LastError"], ["part"], "BadStory.__init__", 20⟩
abbrev eBadShare : Ent := ⟨"BadShare", ["LastError"], ["part"], "BadShare.__init__", 21⟩
abbrev eBadPlay : Ent := ⟨"BadPlay", ["LastError"], ["part"], "BadPlay.__init__", 22⟩
abbrev eBadNumber : Ent := ⟨"BadNumber", ["LastError"], ["part"], "BadNumber.__init__", 23⟩
abbrev eBadPaper : Ent := ⟨"BadPaper", ["LastError"], ["part"], "BadPaper.__init__", 24⟩
abbrev eNoStranger : Ent := ⟨"NoStranger", ["Missing", "LastError"], ["name"], "NoStranger.__init__", 26⟩
abbrev eNoKeeper : Ent := ⟨"NoKeeper", ["Missing", "LastError"], ["name"], "NoKeeper.__init__", 27⟩
abbrev eLoser : Ent := ⟨"Loser", ["LastError"], ["name"], "Loser.__init__", 32⟩
abbrev eLeft : Ent := ⟨"Left", ["LastError"], ["name"], "Left.__init__", 45⟩
abbrev eNoHand : Ent := ⟨"NoHand", ["LastError"], ["number"], "NoHand.__init__", 28⟩
abbrev eNoRow : Ent := ⟨"NoRow", ["LastError"], ["number"], "NoRow.__init__", 29⟩
abbrev eNotEven : Ent := ⟨"NotEven", ["LastError"], ["number"], "NotEven.__init__", 39⟩
abbrev eTooNarrow : Ent := ⟨"TooNarrow", ["LastError"], ["number"], "TooNarrow.__init__", 42⟩
abbrev eBeyond : Ent := ⟨"Beyond", ["LastError"], ["number"], "Beyond.__init__", 43⟩
abbrev eDone : Ent := ⟨"Done", ["LastError"], ["number"], "Done.__init__", 46⟩
abbrev eBroken : Ent := ⟨"Broken", ["LastError"], ["number"], "Broken.__init__", 47⟩
abbrev eTwice : Ent := ⟨"Twice", ["LastError"], ["value"], "Twice.__init__", 30⟩
abbrev eUnlike : Ent := ⟨"Unlike", ["LastError"], ["what"], "Unlike.__init__", 31⟩
abbrev eNotGood : Ent := ⟨"NotGood", ["LastError"], ["moment"], "NotGood.__init__", 36⟩
abbrev eNotTwo : Ent := ⟨"NotTwo", ["LastError"], ["many"], "NotTwo.__init__", 40⟩
abbrev eAhead : Ent := ⟨"Ahead", ["LastError"], ["one", "other"], "Ahead.__init__", 35⟩
abbrev eNotCoprime : Ent := ⟨"NotCoprime", ["LastError"], ["one", "other"], "NotCoprime.__init__", 41⟩
abbrev eObjected : Ent := ⟨"Objected", ["LastError"], ["name", "amount"], "Objected.__init__", 49⟩
abbrev eDrawnOut : Ent := ⟨"DrawnOut", ["LastError"], ["name", "amount"], "DrawnOut.__init__", 50⟩
abbrev eRing : Ent := ⟨"Ring", ["LastError"], ["number", "numbers"], "Ring.__init__", 34⟩
abbrev eLeans : Ent := ⟨"Leans", ["LastError"], ["number", "other"], "Leans.__init__", 48⟩
abbrev eNoWay : Ent := ⟨"NoWay", ["LastError"], ["done", "name"], "NoWay.__init__", 37⟩
abbrev eTooMany : Ent := ⟨"TooMany", ["LastError"], ["what", "most"], "TooMany.__init__", 52⟩
abbrev eBadText : Ent := ⟨"BadText", ["LastError"], ["line", "word"], "BadText.__init__", 53⟩
abbrev eBadLine : Ent := ⟨"BadLine", ["LastError"], ["line", "error"], "BadLine.__init__", 54⟩
abbrev eBelow : Ent := ⟨"Below", ["LastError"], ["name", "side", "amount"], "Below.__init__", 33⟩
abbrev eObjects : Ent := ⟨"Objects", ["LastError"], ["name", "amount", "place"], "Objects.__init__", 38⟩
abbrev eAlone : Ent := ⟨"Alone", ["LastError"], [], "Alone.__init__", 44⟩
abbrev eNoDeed : Ent := ⟨"NoDeed", ["LastError"], [], "NoDeed.__init__", 51⟩
abbrev eMissing : Ent := ⟨"Missing", ["LastError"], ["name"], "Missing.__init__", 25⟩
abbrev eLastError : Ent := ⟨"LastError", [], [], "LastError.__init__", 3⟩
def tab : List Ent := [eBadRatio, eBadHandOver, eBadSwap, eBadBounds, eBadLeanings, eBadDeal, eBadRow, eBadDone, eBadCounts, eBadDial, eBadWay, eBadKeeper, eBadKeepers, eBadLaid, eBadChoice, eBadBook, eBadStory, eBadShare, eBadPlay, eBadNumber, eBadPaper, eNoStranger, eNoKeeper, eLoser, eLeft, eNoHand, eNoRow, eNotEven, eTooNarrow, eBeyond, eDone, eBroken, eTwice, eUnlike, eNotGood, eNotTwo, eAhead, eNotCoprime, eObjected, eDrawnOut, eRing, eLeans, eNoWay, eTooMany, eBadText, eBadLine, eBelow, eObjects, eAlone, eNoDeed]
open He
abbrev Ent.own (K : PySem.W.Frag) (e : Ent) : List Addr := He.ga K e.x :: e.chain.map (He.ga K)
/-- an error class: its object, its mro -/
def oexB (K : PySem.W.Frag) (C : Addr) (own : List Addr) : Bool := match K.lookup C with
  | some ⟨.type t, _, .cls cd, sl⟩ => t == "type" && ((match sl.toList with
    | [_, _, _, _, some (.builtin n), _] => n == "ValueError.__new__"
    | _ => false) && (!cd.hasDel && (cd.hasDict && decide (cd.mro = own.map Value.ref ++ veBase))))
  | _ => false
/-- all that one error class is asked for -/
def clsB (K : PySem.W.Frag) (e : Ent) : Bool :=
  eqO (PySem.W.nsIn K mainGlobals e.x) (some (some (.ref (e.C K)))) && (oexB K (e.C K) (e.own K) && (eqO (PySem.W.findIn K (.ref (e.C K)) "__setattr__") (some (some (.builtin "object.__setattr__"))) &&
  (decide (PySem.W.typeIn K (.ref (e.C K)) = some (.type "type")) && (PySem.W.keepIn K (.ref (e.C K)) && (xfB K (e.C K) && (eqO (PySem.W.findIn K (.ref (e.C K)) "__class__") (some (some (.builtin "object.__class__"))) &&
  e.fl.all fun f => eqO (PySem.W.findIn K (.ref (e.C K)) f) (some none)))))))
def all52 : List Ent := tab ++ [eMissing, eLastError]
def adrs (K : PySem.W.Frag) : List Addr := all52.map (Ent.C K)
def tabF : List Ent := [eBadRatio, eBadHandOver, eBadSwap, eBadBounds, eBadLeanings, eBadDeal, eBadRow, eBadDone, eBadCounts, eBadDial, eBadWay, eBadKeeper, eBadKeepers, eBadLaid, eBadChoice, eBadBook, eBadStory, eBadShare, eBadPlay, eBadNumber, eBadPaper, eNoStranger, eNoKeeper, eLoser, eLeft, eNoHand, eNoRow, eNotEven, eTooNarrow, eBeyond, eDone, eBroken, eTwice, eUnlike, eNotGood, eNotTwo, eAhead, eNotCoprime, eObjected, eDrawnOut, eRing, eLeans, eNoWay, eTooMany, eBadText, eBadLine, eBelow, eObjects, eMissing]
def freeNames : List Str := ["abs", "int", "len", "str", "bool", "repr", "isinstance", "enumerate", "range", "ValueError", "LookupError", "TypeError", "ArithmeticError", "RuntimeError", "AttributeError"]
def lawNames : List Str := ["Ratio", "is_integer", "_law_pail", "_law_dip", "_law_parts", "_law_parts_turned", "_law_others", "_law_others_named", "_law_one_field", "_law_fields", "_law_kin", "_law_stands_right", "_law_all_right", "law"]
def kinds7 : List String := ["NoneType", "bool", "int", "str", "tuple", "list", "dict"]
def zeros : List Str := ["Alone", "NoDeed", "LastError"]
def mkB (K : PySem.W.Frag) (e : Ent) : Bool := eqO (PySem.W.findIn K (.ref (e.C K)) "__init__") (some (some (.ref (ma K (e.C K) "__init__")))) && decide (PySem.W.typeIn K (.ref (ma K (e.C K) "__init__")) = some (.type "function"))
def mkD (a : Str × Option Str) (name qual : Str) (st : Stmt) (dfl : List Dv := []) : DefD := { at_ := a, name := name, qual := qual, params := defArgs st, body := defBody st, scope := defScope st, dfl := dfl }
def mkE (e : Ent) : DefD := mkD (e.x, some "__init__") "__init__" e.q e.st
def topD (x : Str) (st : Stmt) : DefD := mkD (x, none) x x st
def fns0 : List DefD := [mkD ("Ratio", some "__init__") "__init__" "Ratio.__init__" sRInit [.int 1], mkD ("Ratio", some "__str__") "__str__" "Ratio.__str__" sRStr, mkD ("Ratio", some "__repr__") "__repr__" "Ratio.__repr__" sRRepr,
  topD "is_integer" sIsInt, topD "_law_pail" sPail, topD "_law_dip" sDip, topD "_law_parts" sParts, topD "_law_parts_turned" sPartsT, topD "_law_others" sOthers, topD "_law_others_named" sOthersN,
  topD "_law_one_field" sOne, topD "_law_fields" sFields, topD "_law_kin" sKin, topD "_law_stands_right" sStands, topD "_law_all_right" sAll, topD "law" sLaw]
def fns : List DefD := fns0 ++ tabF.map mkE
/-- the addresses that are looked at -/
def adl : List Addr := [3, 6, 4, 49, 59, 79, 98, 117, 136, 155, 174, 193, 212, 231, 250, 269, 288, 307, 326, 345, 364, 383, 402, 421, 440, 459, 478, 497, 516, 535, 554, 573, 592, 611, 630, 649, 668, 687, 706, 725, 744, 763, 782, 801, 820, 832, 851, 870, 889, 908, 927, 946, 958, 977, 996, 1015, 1024, 1031, 1038, 1043, 1181, 1192, 1199, 1206, 1213, 1220, 1227, 1234, 1241, 1248, 1255, 1262, 1269, 1274, 1279, 1286, 0, 48, 58, 78, 97, 116, 135, 154, 173, 192, 211, 230, 249, 268, 287, 306, 325, 344, 363, 382, 401, 420, 439, 458, 477, 496, 515, 534, 553, 572, 591, 610, 629, 648, 667, 686, 705, 724, 743, 762, 781, 800, 819, 831, 850, 869, 888, 907, 926, 945, 957, 976, 995, 1014, 1023, 1030, 1037, 1042, 1180, 1191, 1198, 1205, 1212, 1219, 1226, 1233, 1240, 1247, 1254, 1261, 1268, 1273, 1278, 1285, 43, 44, 45, 46, 47, 57, 60, 76, 77, 95, 96, 114, 115, 133, 134, 152, 153, 171, 172, 190, 191, 209, 210, 228, 229, 247, 248, 266, 267, 285, 286, 304, 305, 323, 324, 342, 343, 361, 362, 380, 381, 399, 400, 418, 419, 437, 438, 456, 457, 475, 476, 494, 495, 513, 514, 532, 533, 551, 552, 570, 571, 589, 590, 608, 609, 627, 628, 646, 647, 665, 666, 684, 685, 703, 704, 722, 723, 741, 742, 760, 761, 779, 780, 798, 799, 817, 818, 830, 848, 849, 867, 868, 886, 887, 905, 906, 924, 925, 943, 944, 956, 974, 975, 993, 994, 1012, 1013, 1018, 1019, 1020, 1021, 1022, 1025, 1026, 1027, 1028, 1029, 1032, 1033, 1034, 1035, 1036, 1039, 1040, 1041, 1058, 1066, 1074, 1081, 1088, 1095, 1102, 1109, 1116, 1123, 1130, 1137, 1144, 1151, 1158, 1167, 1177, 1179, 1182, 1183, 1186, 1187, 1188, 1189, 1190, 1193, 1194, 1195, 1196, 1197, 1200, 1201, 1202, 1203, 1204, 1207, 1208, 1209, 1210, 1211, 1214, 1215, 1216, 1217, 1218, 1221, 1222, 1223, 1224, 1225, 1228, 1229, 1230, 1231, 1232, 1235, 1236, 1237, 1238, 1239, 1242, 1243, 1244, 1245, 1246, 1249, 1250, 1251, 1252, 1253, 1256, 1257, 1258, 1259, 1260, 1263, 1264, 1265, 1266, 1267, 1270, 1271, 1272, 1275, 1276, 1277, 1280, 1281, 1282, 1283, 1284, 75, 94, 113, 132, 151, 170, 189, 208, 227, 246, 265, 284, 303, 322, 341, 360, 379, 398, 417, 436, 455, 474, 493, 512, 531, 550, 569, 588, 607, 626, 645, 664, 683, 702, 721, 740, 759, 778, 797, 816, 847, 866, 885, 904, 923, 942, 973, 992, 1011, 1057, 1051, 1065, 1073, 1080, 1087, 1094, 1101, 1108, 1115, 1122, 1129, 1136, 1143, 1150, 1157, 1165, 1166, 1175, 1176]
abbrev oF (s : PySem.W.SharedT) : PySem.W.Frag := He.frG (HandSHeadRun.getT s) adl
def factB1 (K : PySem.W.Frag) : Bool :=
  freeNames.all (fun x => He.eqO (PySem.W.nsIn K mainGlobals x) (some none)) && (He.eqO (PySem.W.nsIn K mainGlobals "gcd") (some (some (.builtin "math.gcd"))) &&
  (He.eqO (PySem.W.specialIn K (.builtin "object.__class__") "__get__") (some (some (.builtin "getset_descriptor.__get__"))) && (decide (PySem.W.takesIn K (.builtin "object.__class__") = some true) &&
  all52.all (clsB K))))
def factB2 (K : PySem.W.Frag) : Bool :=
  tabF.all (mkB K) && (decide (adrs K).Nodup && (zeros.all (fun x => PySem.W.excIn K (He.ga K x) He.veBase "ValueError.__new__") && (lawNames.all (fun x => He.eqO (PySem.W.nsIn K mainGlobals x) (some (some (.ref (He.ga K x))))) &&
  ((He.Fa.cls "Ratio").ok K && ((He.Fa.noat "Ratio" "top").ok K && ((He.Fa.noat "Ratio" "bottom").ok K && ((He.Fa.mkr "Ratio").ok K && (He.eqO (PySem.W.findIn K (.ref (He.ga K "Ratio")) "__class__") (some (some (.builtin "object.__class__"))) &&
  (decide (PySem.W.mroIn K (He.ga K "Ratio") (.type "object") = some true) && (kinds7.all (fun T => decide (PySem.W.kitOne K (.type T) (.ref (He.ga K "Ratio")) = some false)) && ((He.Fa.meth "Ratio" "__str__").ok K && (He.Fa.meth "Ratio" "__repr__").ok K)))))))))))
theorem runA1 (w : World) : (wf w).map (fun x => HandSHeadRun.looksF R.prog x.1.heap x.2.abs) = some true := by kernel_rfl
theorem runA2 (w : World) : (wf w).map (fun x => HandSHeadRun.seenQ (PySem.W.view R.prog [0, 79]) loose (importedModules R.prog.main.body) sq x.2.abs) = some (PySem.W.openGood (PySem.W.view R.prog [0, 79]) loose) := by kernel_rfl
theorem runB1 (w : World) : (wf w).map (fun x => factB1 (oF x.2)) = some true := by kernel_rfl
theorem runB2 (w : World) : (wf w).map (fun x => factB2 (oF x.2)) = some true := by kernel_rfl
theorem runD1 (w : World) : (wf w).map (fun x => He.obsD [] (fns.take 22) (oF x.2)) = some (He.valD (fns.take 22)) := by kernel_rfl
theorem runD2 (w : World) : (wf w).map (fun x => He.obsD [] ((fns.drop 22).take 22) (oF x.2)) = some (He.valD ((fns.drop 22).take 22)) := by kernel_rfl
theorem runD3 (w : World) : (wf w).map (fun x => He.obsD [] (fns.drop 44) (oF x.2)) = some (He.valD (fns.drop 44)) := by kernel_rfl
end K0
namespace K0
open PySem PySem.Spec PyProof.Rows L2
/-! The opening, part by part: each is a run of its own. -/
end K0
/-! An own exception class over ValueError, called with keywords too: the model's own steps. -/
namespace K0
open PySem PySem.W PySem.Calls PyProof.Rows PySem.HandSPX

section
variable {M : Model} {A : Around} {E : Value → Shared → Prop} {h : Heap} {g : Array GenState} {d : Drawn} {t : Nat} {os : OsState}
variable {nm q : Str} {C N : Addr} {bs bm bmB : List Value} {hdct : Bool} {sn : List Str} {sub : List Value} {ab : Bool} {col : Option Bool} {dd : Option Addr} {k0 k1 k2 k3 k5 : Option Value} {B newId initId : String}

theorem checkNewK (F : ExcBaseFacts B newId initId bmB) (hT : ∀ X : String, bm.contains (.type X) = bmB.contains (.type X)) {rest : List Value} {kw : List (Str × Value)} {Q : Unit → Shared → Prop}
    (hC : h.get? C = some (excClassObj nm q C N bs bm hdct sn sub ab col dd k0 k1 k2 k3 k5 newId)) (hq : Q () ⟨h, g, d, t, os⟩) :
    wpAny M A (checkBuiltinCall newId ⟨.ref C :: rest, kw⟩) Q E ⟨h, g, d, t, os⟩ := by
  have inB : (Value.ref C :: bm).contains (.type B) = true := by
    rw [List.contains_cons, hT, F.hasB, Bool.or_true]
  have noStar := F.noStar
  simp only [checkBuiltinCall, F.newKind, F.newSplit, F.newRow]
  repeat (first
    | refine wpAny_loadPart_at hC ?_
    | (refine wpAny_isSubtype_exc hC ?_; rw [inB])
    | refine wpAny_staticBase_exc hC ?_
    | refine wpAny_madeBy_exc hC ?_
    | simp only [bne_self_eq_false, Bool.false_eq_true, if_false]
    | wp_step)
  exact hq
end

section
variable {prog : Program} {w : World} {A : Around} {E : Value → Shared → Prop} {R : Result → Shared → Prop} {h : Heap} {g : Array GenState} {d : Drawn} {t : Nat} {os : OsState}
variable {nm q : Str} {C N : Addr} {bs bm bmB : List Value} {hdct : Bool} {sn : List Str} {sub : List Value} {ab : Bool} {col : Option Bool} {dd : Option Addr} {k0 k1 k2 k3 k5 : Option Value} {B newId initId : String}

/-- the two objects that a new exception is: its arguments, itself -/
abbrev laid2 (h : Heap) (C : Addr) (rest : List Value) : Heap := (h.push (W.kdv_tup rest)).push (excO C h.objs.size)

theorem newK (F : ExcBaseFacts B newId initId bmB) (hT : ∀ X : String, bm.contains (.type X) = bmB.contains (.type X)) {rest : List Value} {kw : List (Str × Value)}
    (hC : h.get? C = some (excClassObj nm q C N bs bm hdct sn sub ab col dd k0 k1 k2 k3 k5 newId))
    (hq : R (.ok (.ret (.ref (h.objs.size + 1)))) ⟨laid2 h C rest, g, d, t, os⟩) (hrest : rest.length ≤ sizeLine) :
    codeAny (model prog w) A (.builtin newId ⟨.ref C :: rest, kw⟩) R ⟨h, g, d, t, os⟩ := by
  have ends := F.ends
  have inB : (Value.ref C :: bm).contains (.type B) = true := by
    rw [List.contains_cons, hT, F.hasB, Bool.or_true]
  have inA : (Value.ref C :: bm).contains (.type "AttributeError") = false := by
    rw [List.contains_cons, hT, F.noAttr]; rfl
  have inN : (Value.ref C :: bm).contains (.type "NameError") = false := by
    rw [List.contains_cons, hT, F.noName]; rfl
  refine codeAny_builtinAt F.entry ?_
  unfold Builtin.«BaseException.__new__»
  refine PySem.wpAt_bind ?_
  show PySem.wpAt _ _ _ (stack >>= _) _ _ _
  refine PySem.wpAt_bind (PySem.wpAt_stack fun p below => PySem.wpAt_of_wpAny ?_)
  wp_walk
  refine PySem.wpAt_of_wpAny ?_
  rw [F.owner]
  repeat (first
    | with_reducible refine wpAny_madeHere_exc F.canon hC ?_
    | with_reducible refine wpAny_loadPart_at hC ?_
    | (with_reducible refine wpAny_isSubtype_exc hC ?_; first | rw [inB] | rw [inA] | rw [inN])
    | wp_step)
  show R _ _
  rw [Heap.size_push]
  exact hq

theorem typeCallK (F : ExcBaseFacts B newId initId bmB) (hT : ∀ X : String, bm.contains (.type X) = bmB.contains (.type X)) {rest : List Value} {kw : List (Str × Value)} {fI : Addr} {Q : Fin → Shared → Prop}
    (hC : h.get? C = some (excClassObj nm q C N bs bm hdct sn sub ab col dd k0 k1 k2 k3 k5 newId))
    (hi : W.Looks (model prog w) h (typeLookup (.ref C) "__init__") (some (.ref fI))) (hb : ∀ self, W.Looks (model prog w) h (bindSpecial (.ref fI) self) (.ref fI, [self])) (hrest : rest.length ≤ sizeLine)
    (hq : codeAny (model prog w) A (.call (.ref fI) ⟨.ref (h.objs.size + 1) :: rest, kw⟩)
      (fun r s' => match r with
        | .ok (.ret v) => v = .none ∧ Q (.done (.ret (.ref (h.objs.size + 1)))) s'
        | .ok _ => False
        | .error e => E e s')
      ⟨laid2 h C rest, g, d, t, os⟩) :
    wpAny (model prog w) A (Builtin.«type.__call__» ⟨.ref C :: rest, kw⟩) Q E ⟨h, g, d, t, os⟩ := by
  repeat (first
    | with_reducible refine wpAny_loadPart_at hC ?_
    | with_reducible refine wpAny_madeBy_exc hC ?_
    | wp_step)
  refine codeAny_call_builtin_code (Code.quiet_builtin _ F.quiet) (checkNewK F hT hC ?_)
  refine newK F hT hC ?_ hrest
  show wpAny _ _ _ _ _ _
  have k : ∀ b o, h.get? b = some o → (laid2 h C rest).get? b = some o :=
    fun b o e => Heap.get?_push_of_some _ (Heap.get?_push_of_some _ e)
  have hC1 := k _ _ hC
  have hget : (laid2 h C rest).get? (h.objs.size + 1) = some (excO C h.objs.size) := by heap_get
  have hcC : (Value.ref C :: bm).contains (.ref C) = true := by simp
  have i1 := hi.keeps k
  have b1 := (hb (.ref (h.objs.size + 1))).keeps k
  unfold isInstance
  repeat (first
    | with_reducible refine wpAny_loadPart_at hget ?_
    | (with_reducible refine wpAny_isSubtype_exc hC1 ?_; rw [hcC])
    | wp_step)
  show wpAny _ _ (typeLookup (.ref C) _) _ _ _
  refine i1.at ?_
  refine wpAny_holding (wpAny_bind (b1.at ?_))
  refine wpAny_bind (wpAny_call (codeAny_mono hq fun r s' z => ?_))
  rcases r with e | (v | _ | _ | _) <;> first | exact z | exact z.elim | skip
  obtain ⟨rfl, z⟩ := z
  first
    | exact wpAny_pure (wpAny_pure z)
    | (wp_walk; exact z)

theorem isType_cls {M : Model} {C : Addr} {o : Obj} (hC : h.get? C = some o) (hc : o.cls = .type "type") : W.Looks M h (isInstance (.ref C) (.type "type")) true := by
  have h1 : W.Looks M h (typeOf (.ref C)) (.type "type") := by
    have z : W.Looks M h (typeOf (.ref C)) o.cls := (W.Looks.ld hC).andThen W.Looks.now
    rw [hc] at z
    exact z
  exact h1.andThen (W.Looks.of_pure (by rw [isSubtype_type]; kernel_rfl))

theorem callExcK (F : ExcBaseFacts B newId initId bmB) (hT : ∀ X : String, bm.contains (.type X) = bmB.contains (.type X)) {rest : List Value} {kw : List (Str × Value)} {fI : Addr}
    (hC : h.get? C = some (excClassObj nm q C N bs bm hdct sn sub ab col dd k0 k1 k2 k3 k5 newId))
    (hi : W.Looks (model prog w) h (typeLookup (.ref C) "__init__") (some (.ref fI))) (hb : ∀ self, W.Looks (model prog w) h (bindSpecial (.ref fI) self) (.ref fI, [self])) (hrest : rest.length ≤ sizeLine)
    (hq : codeAny (model prog w) (A.under (.builtin "type.__call__" ⟨.ref C :: rest, kw⟩)) (.call (.ref fI) ⟨.ref (h.objs.size + 1) :: rest, kw⟩) (W.InitBack (h.objs.size + 1) R)
      ⟨laid2 h C rest, g, d, t, os⟩) :
    codeAny (model prog w) A (.call (.ref C) ⟨rest, kw⟩) R ⟨h, g, d, t, os⟩ := by
  have f1 := tc_lookup
  have f2 := tc_bind (.ref C)
  have hTy : (⟨h, g, d, t, os⟩ : Shared).TypeIs (.ref C) "type" := ⟨_, hC, rfl⟩
  refine codeAny_of_tree ?_
  show wpAny _ _ (callAny (.ref C) _) _ _ _
  repeat (any_goals (first | assumption | with_reducible refine wpAny_loadPart_at hC ?_ | wp_step))
  refine ⟨rfl, ?_⟩
  refine codeAny_call_builtin_at (Code.quiet_builtin _ (by decide +kernel)) entry_typeCall ?_
  refine W.check_slot tc_kind tc_split (isType_cls hC rfl) (W.tc_args _ _ _) ?_
  refine typeCallK F hT hC hi hb hrest ?_
  refine codeAny_mono hq fun r s' z => ?_
  rcases r with e | (v | _ | _ | _) <;> exact z
end
end K0

/-! Exceptions of own classes as values: made, their fields read, asked by isinstance. -/
namespace K0
open PySem PySem.Spec PyProof.Rows L2

/-- at a stands an exception of the class at C with these fields (the last stored first) -/
def Ex (H : Hp) (a C : Addr) (fs : List (Str × V)) : Prop := ∃ dx, H a = some (exo a C (some dx)) ∧ H dx = some (exd dx fs)
/-- .. with or without fields -/
def ExA (H : Hp) (a C : Addr) : Prop := (∃ fs, Ex H a C fs) ∨ H a = some (exo a C none)
theorem Ex.same {H H' : Hp} {a C : Addr} {fs : List (Str × V)} (s : Same H H') (h : Ex H a C fs) : Ex H' a C fs := by
  obtain ⟨dx, h1, h2⟩ := h
  exact ⟨dx, s _ _ h1, s _ _ h2⟩
theorem ExA.same {H H' : Hp} {a C : Addr} (s : Same H H') (h : ExA H a C) : ExA H' a C := by
  rcases h with ⟨fs, h⟩ | h
  · exact .inl ⟨fs, h.same s⟩
  · exact .inr (s _ _ h)
theorem Ex.at_ {H : Hp} {a C : Addr} {fs : List (Str × V)} (h : Ex H a C fs) : ∃ o, H a = some o := by
  obtain ⟨dx, h1, _⟩ := h
  exact ⟨_, h1⟩

/-- what the written part says of an own exception class, for all that is asked of its instances -/
structure XCls (K : PySem.W.Frag) (C : Addr) : Prop where
  o : OexC K C
  f : XfC K C
  i : ExcC K C
  c : (PySem.W.clsIn K C).isSome = true

section
variable {X : Cx} {pins : List (Addr × Obj)} {σ : L2.St} {H : Hp} {s : Shared} {a C : Addr}
/-- such an instance, for the library's rules -/
theorem ExA.inst (hok : HOk X.prog X.w H s.heap) (h : ExA H a C) : ∃ ox od, PySem.W.InstAt s.heap a ox C od := by
  rcases h with ⟨fs, dx, h1, h2⟩ | h1
  · obtain ⟨t1, ho⟩ := exo_at hok h1
    obtain ⟨mA, ⟨o, es, ep, e1, _⟩, _⟩ := exd_at hok h2
    exact ⟨_, some o, ho, rfl, rfl, e1⟩
  · obtain ⟨t1, ho⟩ := exo_at hok h1
    exact ⟨_, none, ho, rfl, rfl, trivial⟩
end

/-- e.f of such an exception -/
def tXat (K : PySem.W.Frag) (f : Str) (te : TE) : TE := fun σ H Q => te σ H fun x H1 => ∃ (a C : Addr) (fs : List (Str × V)) (v : V),
  x = .ref a ∧ Ex H1 a C fs ∧ XfC K C ∧ PySem.W.findIn K (.ref C) f = some none ∧ fs.lookup f = some v ∧ Q v H1
theorem pe_xat {X : Cx} {e : Expr} {te : TE} {pos : Pos} {n : Str} (he : PE X e te) (hb : attributeBase e n X.env (eval e X.env) = eval e X.env := by rfl) :
    PE X (.Attribute e n pos) (tXat X.K n te) := by
  refine ⟨fun pins s σ H Q I h => ?_⟩
  refine attr_of hb (thn (he.run pins s σ H _ I h) fun u s1 hh => ?_)
  obtain ⟨x, H1, I1, rx, a, C, fs, v, ex, ⟨dx, h1, h2⟩, T, hno, l, q⟩ := hh
  subst ex
  obtain rfl : u = Value.ref a := rx
  obtain ⟨t1, ho⟩ := exo_at I1.hok h1
  obtain ⟨mA, hns, hr⟩ := exd_at I1.hok h2
  obtain ⟨od, hod, hl⟩ := lookIn_ns hns
  obtain ⟨u, hu, ru⟩ := RelO.some_of (v := v) (o := mA n) (by rw [← l]; exact hr n)
  have J : PySem.W.InstAt s1.heap a _ C (some od) := ⟨ho, rfl, rfl, hod⟩
  exact HandSPX.exc_get I1.kIn J T.ga T.gg T.exC (PySem.W.findObj_own T.hdC hno rfl (by rw [hl, hu])) (handed_of ru) ⟨v, H1, I1.tok _, ru, q⟩

/-- isinstance(e, c), e such an exception, c one class -/
def rIsX (K : PySem.W.Frag) : List V → Hp → VK → Prop := fun xs H Q => ∃ (a C : Addr) (c : V) (cv : Value) (b : Bool),
  xs = [.ref a, c] ∧ ClsV c cv ∧ ExA H a C ∧ XCls K C ∧ PySem.W.kitOne K (.ref C) cv = some b ∧ Q (.bl b) H
theorem call_isX {X : Cx} : CallR X (.builtin "isinstance") (rIsX X.K) := by
  intro pins s σ H xs us Q I r h
  obtain ⟨a, C, c, cv, b, rfl, hc, hx, T, e, q⟩ := h
  obtain ⟨u1, u2, rfl, r1, r2⟩ := vals2 r
  obtain rfl : u1 = Value.ref a := r1
  have e2 := hc.eq r2
  subst e2
  obtain ⟨ox, od, J⟩ := ExA.inst (X := X) I.hok hx
  exact PySem.W.kia_one (PySem.W.kitx_exc T.c T.i.hg T.i.hk T.i.hs T.i.ha T.i.hn T.i.ht T.i.hm) I.kIn J e (fun z => nomatch z) fun tk => ⟨.bl b, H, I.tok tk, rfl, q⟩

/-- C(), a class without an own __init__ -/
theorem pe_ex0 {X : Cx} {C : Addr} {bmB : List Value} {B newId initId : String} {x : Str} {p pos : Pos} (F : ExcBaseFacts B newId initId bmB) (q : PySem.W.excIn X.K C bmB newId = true)
    (gC : X.mg x = some (.ref C)) (kC : PySem.W.keepIn X.K (.ref C) = true) (hg : Gl X x) (hdb : (x == ("__debug__" : Str)) = false := by decide) :
    PE X (.Call (.Name x p) [] [] pos) (fun σ H Q => ∀ a, H a = none → Q (.ref a) (upd H a (exo a C none))) := by
  refine ⟨fun pins s σ H Q I h => ?_⟩
  refine wpAny_Call_Name_kw (ld_glob I hg gC ?_ hdb)
  refine PySem.W.callWith_K0 I.kIn kC ?_
  show wpAny _ _ (call (.ref C) []) _ _ _
  obtain ⟨bm, N, nm, qn, bs, hdct, sn, sub, ab, col, dd, k0, k1, k2, k3, k5, mN, hC, hN, hni, T⟩ := exc_obj I.kIn q
  refine wpAny_call_exc_subT F T hC hN hni (fun h' a hm => ?_) (by show 0 ≤ sizeLine; exact Nat.zero_le _)
  have hn : H a = none := I.hok.gone hm.new
  obtain ⟨t, ht, _, _⟩ := hm.there
  exact ⟨.ref a, upd H a (exo a C none), I.laidN hm.keeps hm.new hn (exo_ok ht), rfl, h a hn⟩

/-- how __init__ binds: self, then the keywords' values (names ks) put by g; no keyword: the positional values -/
structure XBind (K : PySem.W.Frag) (fd : FuncData) (ps ks : List Str) (g : List Value → List Value) (gV : List V → List V) : Prop where
  to : ∀ (s : Shared) (self : Value) (ws : List Value), K.In s.heap → ws.length = ks.length → BindsTo s fd ⟨[self], ks.zip ws⟩ (ps.zip (self :: g ws))
  rel : ∀ {zs : List V} {ws : List Value}, Vals zs ws → Vals (gV zs) (g ws)

section
variable {X : Cx} {pins : List (Addr × Obj)} {σ : L2.St} {H : Hp} {s : Shared} {C fI : Addr} {k : Nat} {fd : FuncData} {ps : List Str} {sp : Sp} {CX : CXT}
/-- the making itself -/
theorem run_ex (T : OexC X.K C) (iC : PySem.W.findIn X.K (.ref C) "__init__" = some (some (.ref fI))) (tI : PySem.W.typeIn X.K (.ref fI) = some (.type "function"))
    (F1 : FnOk X.prog X.w X.K X.mg X.base CX0 k fI fd ps sp) (hr : Room (k + 1) X.A) (I : Inv X pins σ H s) {Q : VK} {us : List Value} {kw : List (Str × Value)} {bs : List Value} {vs : List V}
    (hus : us.length ≤ sizeLine) (hb : ∀ s' self, X.K.In s'.heap → BindsTo s' fd ⟨self :: us, kw⟩ (ps.zip (self :: bs))) (r : Vals vs bs)
    (hq : ∀ a, H a = none → sp (.ref a :: vs) (upd H a (exo a C none)) (fun v H2 => v = .non ∧ Q (.ref a) H2) E0) :
    wpAny (model X.prog X.w) X.A (call (.ref C) us kw) (EP X pins σ Q) X.xe s := by
  obtain ⟨nm, q, N, bsC, bm, sn, sub, ab, col, dd, k0, k1, k2, k3, k5, hC, hbm⟩ := T.cls
  obtain ⟨hp, g, dr, tk, os⟩ := s
  have hsz : hp.objs.size ≤ hp.objs.size + 1 := Nat.le_succ _
  have hn : H (hp.objs.size + 1) = none := I.hok.fresh hsz
  have hq1 := hq (hp.objs.size + 1) hn
  have kk : ∀ b o, hp.get? b = some o → (laid2 hp C us).get? b = some o := fun b o e => Heap.get?_push_of_some _ (Heap.get?_push_of_some _ e)
  have hget : (laid2 hp C us).get? (hp.objs.size + 1) = some (PySem.HandSPX.excO C hp.objs.size) := by heap_get
  have I2 : Inv X pins σ (upd H (hp.objs.size + 1) (exo (hp.objs.size + 1) C none)) ⟨laid2 hp C us, g, dr, tk, os⟩ :=
    I.laid (t' := tk) (a := hp.objs.size + 1) (o := exo (hp.objs.size + 1) C none) (h' := laid2 hp C us) kk hsz (exo_ok hget)
  have r2 : Vals (V.ref (hp.objs.size + 1) :: vs) (Value.ref (hp.objs.size + 1) :: bs) := .cons rfl r
  refine wpAny_call (callExcK F.excBase_ValueError (fun Y => PySem.HandSPX.refsVE_contains Y bm hbm) (I.kIn _ _ hC) (PySem.W.looks_findIn I.kIn iC) (fun self => PySem.W.bind_fn I.kIn self tI) hus
    (codeAny_mono (F1.run _ X.stack _ _ ⟨Value.ref (hp.objs.size + 1) :: us, kw⟩ (Value.ref (hp.objs.size + 1) :: bs) _ _ E0 (hr.make C us kw) (I2.env0.make C us kw) (hb _ _ I2.kIn) r2 hq1) fun rr s' hq' => ?_))
  cases rr with
  | error er => exact False.elim hq'
  | ok fl =>
    cases fl with
    | ret u =>
      obtain ⟨v, H2, I3, rv, ev, q3⟩ := I2.after hq'
      subst ev
      exact ⟨rv, ⟨.ref (hp.objs.size + 1), H2, I3, rfl, q3⟩⟩
    | next => exact False.elim hq'
    | brk => exact False.elim hq'
    | cont => exact False.elim hq'
end
/-- the reading of a making: then __init__'s promise -/
def tMkX (C : Addr) (sp : Sp) (gV : List V → List V) (n : Nat) (ta : TA) : TE := fun σ H Q => ta σ H fun vs H1 => vs.length = n ∧ n ≤ 1000 ∧
  ∀ a, H1 a = none → sp (.ref a :: gV vs) (upd H1 a (exo a C none)) (fun v H2 => v = .non ∧ Q (.ref a) H2) E0
section
variable {X : Cx} {C fI : Addr} {k : Nat} {fd : FuncData} {ps : List Str} {sp : Sp} {x : Str} {p pos : Pos} {e : Expr} {es : List Expr} {ta : TA}
/-- C(e, ..) -/
theorem pe_exP (T : OexC X.K C) (iC : PySem.W.findIn X.K (.ref C) "__init__" = some (some (.ref fI))) (tI : PySem.W.typeIn X.K (.ref fI) = some (.type "function"))
    (F1 : FnOk X.prog X.w X.K X.mg X.base CX0 k fI fd ps sp) (hr : Room (k + 1) X.A) (hb : Binds X.K fd ps []) {n : Nat} (hps : ps.length = n + 1) (hg : Gl X x) (hm : X.mg x = some (.ref C)) (ha : PA X (e :: es) ta)
    (hdb : (x == ("__debug__" : Str)) = false := by decide) (he : starEach (e :: es) X.env = (false, eval e X.env) :: starEach es X.env := by rfl) (hpl : (backTo pos (starEach es X.env)).any (·.1) = false := by rfl) :
    PE X (.Call (.Name x p) (e :: es) [] pos) (tMkX C sp id n ta) := by
  refine ⟨fun pins s σ H Q I h => ?_⟩
  refine wpAny_Call_Name_kw (ld_glob I hg hm ?_ hdb)
  refine PySem.W.callWith_K (h₀ := X.base) I.ok.mod.kin T.kC (thn (ha.run pos pins s σ H _ I h) fun us s1 ⟨vs, H1, I1, r1, hl, h1000, q1⟩ => ⟨I1.kIn, ?_⟩) he hpl
  have eu : us.length = n := r1.length.symm.trans hl
  have l3 : us.length ≤ sizeLine := by rw [eu, sizeLine_eq]; omega
  refine run_ex (bs := us) T iC tI F1 hr I1 l3 (fun s' self hK => ?_) r1 q1
  have z := hb s' (self :: us) hK (by rw [hps]; simp [eu])
  rwa [List.append_nil] at z
/-- C(k = e, ..) -/
theorem pe_exK (T : OexC X.K C) (iC : PySem.W.findIn X.K (.ref C) "__init__" = some (some (.ref fI))) (tI : PySem.W.typeIn X.K (.ref fI) = some (.type "function")) {ks : List Str} {g : List Value → List Value} {gV : List V → List V} {kws : List Keyword} {tk : TA}
    (F1 : FnOk X.prog X.w X.K X.mg X.base CX0 k fI fd ps sp) (hr : Room (k + 1) X.A) (hb : XBind X.K fd ps ks g gV) (hg : Gl X x) (hm : X.mg x = some (.ref C)) (hkw : PK X kws tk)
    (hall : (backToKw pos (keywordEach kws X.env)).all (·.1.isSome) = true := by rfl) (hks : (backToKw pos (keywordEach kws X.env)).filterMap (·.1) = ks := by rfl) (hdb : (x == ("__debug__" : Str)) = false := by decide)
    (hpl : ((backTo pos (starEach [] X.env)).any (·.1) || (backToKw pos (keywordEach kws X.env)).any (·.1.isNone)) = false := by rfl) :
    PE X (.Call (.Name x p) [] kws pos) (tMkX C sp gV ks.length tk) := by
  refine ⟨fun pins s σ H Q I h => ?_⟩
  refine wpAny_Call_Name_kw (ld_glob I hg hm ?_ hdb)
  refine PySem.W.callWith_KW0 (h₀ := X.base) I.ok.mod.kin T.kC hall ?_ hpl
  refine thn (hkw.run pos pins s σ H _ I h) fun ws s2 ⟨zs, H2, I2, rz, l1, _, q2⟩ => ⟨I2.kIn, ?_⟩
  rw [hks]
  exact run_ex (us := []) T iC tI F1 hr I2 (Nat.zero_le _) (fun s' self hK => hb.to s' self ws hK (rz.length.symm.trans l1)) (hb.rel rz) q2
end
end K0

/-! The __init__ of an error class: self.f = f for each of its fields, one, two or three. -/
namespace K0
open PySem PySem.Spec PyProof.Rows L2

/-- self.f = f -/
abbrev asg (f : Str) (q1 q2 q3 q4 : Pos) : Stmt := .Assign [.Attribute (.Name "self" q1) f q2] (.Name f q3) q4
/-- its promise -/
def spI (C : Addr) (names : List Str) : Sp := fun vs H Q _ => ∃ (a : Addr) (vals : List V), vs = .ref a :: vals ∧ vals.length = names.length ∧ H a = some (exo a C none) ∧
  ∀ dx H', H dx = none → dx ≠ a → H' a = some (exo a C (some dx)) → H' dx = some (exd dx (names.zip vals).reverse) → (∀ b, b ≠ a → b ≠ dx → H' b = H b) → Q .non H'
theorem spI_len {C : Addr} {names : List Str} {vs : List V} {H : Hp} {Q : VK} {E : XK} (h : spI C names vs H Q E) : vs.length = ("self" :: names : List Str).length := by
  obtain ⟨a, vals, rfl, hl, _⟩ := h
  show vals.length + 1 = names.length + 1
  rw [hl]
/-- a name of a def's text -/
theorem vis_of {N ps : List Str} {sc : Scope} (S : FnScope N ps sc) {x : Str} (h : x ∈ ps) : Vis sc x := by
  rcases S.par x h with z | z
  · exact .inl z
  · exact .inr (.inl z)
theorem noDbg {x : Str} (h : (x == ("__debug__" : Str)) = false ∧ (x == ("__classdict__" : Str)) = false) : (x == ("__debug__" : Str)) = false := h.1

section
variable {P : Program} {w : World} {K : PySem.W.Frag} {mg : Str → Option Value} {base : Heap} {f C : Addr} {fd : FuncData} {qual : Str} {params : Arguments} {body : List Stmt} {scope : Scope}
abbrev Plain (x : Str) : Prop := (x == ("__debug__" : Str)) = false ∧ (x == ("__classdict__" : Str)) = false

theorem init1 {f1 : Str} {q1 q2 q3 q4 : Pos} (F : FunD K "__init__" qual params body scope [] [] f fd) (S : FnScope ["self", f1] ["self", f1] scope) (hb : body = [asg f1 q1 q2 q3 q4]) (T : OexC K C)
    (d1 : Plain f1) (n1 : PySem.W.findIn K (.ref C) f1 = some none) : FnOk P w K mg base CX0 1 f fd ["self", f1] (spI C [f1]) := by
  refine F.ok S (fun vs H Q E h => spI_len h) (fun cdv A outer s H vs Q E hr h => ?_)
  subst hb
  obtain ⟨a, vals, rfl, hl, ha, k⟩ := h
  match vals, hl with
  | [v], _ =>
    refine ⟨_, pss_one (ps_ost (pe_var (i := 0) (x := "self") rfl (vis_of S (by simp))) (pe_var (i := 1) rfl (vis_of S (by simp)) d1.1 d1.2)), ?_⟩
    refine ⟨_, rfl, _, rfl, a, C, rfl, T, n1, .inl ⟨ha, fun dx hd hn => ?_⟩⟩
    refine k dx _ hd hn upd_same ?_ (fun b h1 h2 => ?_)
    · rw [upd_ne hn, upd_same]; rfl
    · rw [upd_ne h1, upd_ne h2]
theorem init2 {f1 f2 : Str} {q1 q2 q3 q4 r1 r2 r3 r4 : Pos} (F : FunD K "__init__" qual params body scope [] [] f fd) (S : FnScope ["self", f1, f2] ["self", f1, f2] scope) (hb : body = [asg f1 q1 q2 q3 q4, asg f2 r1 r2 r3 r4]) (T : OexC K C)
    (d1 : Plain f1) (d2 : Plain f2) (n1 : PySem.W.findIn K (.ref C) f1 = some none) (n2 : PySem.W.findIn K (.ref C) f2 = some none) : FnOk P w K mg base CX0 1 f fd ["self", f1, f2] (spI C [f1, f2]) := by
  refine F.ok S (fun vs H Q E h => spI_len h) (fun cdv A outer s H vs Q E hr h => ?_)
  subst hb
  obtain ⟨a, vals, rfl, hl, ha, k⟩ := h
  match vals, hl with
  | [v, u], _ =>
    refine ⟨_, pss_cons (ps_ost (pe_var (i := 0) (x := "self") rfl (vis_of S (by simp))) (pe_var (i := 1) rfl (vis_of S (by simp)) d1.1 d1.2))
      (pss_one (ps_ost (pe_var (i := 0) (x := "self") rfl (vis_of S (by simp))) (pe_var (i := 2) rfl (vis_of S (by simp)) d2.1 d2.2))), ?_⟩
    refine ⟨_, rfl, _, rfl, a, C, rfl, T, n1, .inl ⟨ha, fun dx hd hn => ?_⟩⟩
    have e1 : upd (upd H dx (exd dx [(f1, v)])) a (exo a C (some dx)) dx = some (exd dx [(f1, v)]) := by rw [upd_ne hn, upd_same]
    refine ⟨_, rfl, _, rfl, a, C, rfl, T, n2, .inr ⟨dx, _, upd_same, e1, by simp, ?_⟩⟩
    refine k dx _ hd hn ?_ upd_same (fun b h1 h2 => ?_)
    · rw [upd_ne (Ne.symm hn), upd_same]
    · rw [upd_ne h2, upd_ne h1, upd_ne h2]
theorem init3 {f1 f2 f3 : Str} {q1 q2 q3 q4 r1 r2 r3 r4 t1 t2 t3 t4 : Pos} (F : FunD K "__init__" qual params body scope [] [] f fd) (S : FnScope ["self", f1, f2, f3] ["self", f1, f2, f3] scope)
    (hb : body = [asg f1 q1 q2 q3 q4, asg f2 r1 r2 r3 r4, asg f3 t1 t2 t3 t4]) (T : OexC K C) (d1 : Plain f1) (d2 : Plain f2) (d3 : Plain f3)
    (n1 : PySem.W.findIn K (.ref C) f1 = some none) (n2 : PySem.W.findIn K (.ref C) f2 = some none) (n3 : PySem.W.findIn K (.ref C) f3 = some none) : FnOk P w K mg base CX0 1 f fd ["self", f1, f2, f3] (spI C [f1, f2, f3]) := by
  refine F.ok S (fun vs H Q E h => spI_len h) (fun cdv A outer s H vs Q E hr h => ?_)
  subst hb
  obtain ⟨a, vals, rfl, hl, ha, k⟩ := h
  match vals, hl with
  | [v, u, z], _ =>
    refine ⟨_, pss_cons (ps_ost (pe_var (i := 0) (x := "self") rfl (vis_of S (by simp))) (pe_var (i := 1) rfl (vis_of S (by simp)) d1.1 d1.2))
      (pss_cons (ps_ost (pe_var (i := 0) (x := "self") rfl (vis_of S (by simp))) (pe_var (i := 2) rfl (vis_of S (by simp)) d2.1 d2.2))
      (pss_one (ps_ost (pe_var (i := 0) (x := "self") rfl (vis_of S (by simp))) (pe_var (i := 3) rfl (vis_of S (by simp)) d3.1 d3.2)))), ?_⟩
    refine ⟨_, rfl, _, rfl, a, C, rfl, T, n1, .inl ⟨ha, fun dx hd hn => ?_⟩⟩
    have e1 : upd (upd H dx (exd dx [(f1, v)])) a (exo a C (some dx)) dx = some (exd dx [(f1, v)]) := by rw [upd_ne hn, upd_same]
    refine ⟨_, rfl, _, rfl, a, C, rfl, T, n2, .inr ⟨dx, _, upd_same, e1, by simp, ?_⟩⟩
    refine ⟨_, rfl, _, rfl, a, C, rfl, T, n3, .inr ⟨dx, _, ?_, upd_same, by simp, ?_⟩⟩
    · rw [upd_ne (Ne.symm hn), upd_same]
    refine k dx _ hd hn ?_ upd_same (fun b h1 h2 => ?_)
    · rw [upd_ne (Ne.symm hn), upd_ne (Ne.symm hn), upd_same]
    · rw [upd_ne h2, upd_ne h2, upd_ne h1, upd_ne h2]
end
end K0

/-! repr of values that may hold instances of own classes with a __repr__ of their own. -/
namespace K0
open PySem PySem.Spec PyProof.Rows L2

/-- code that runs at A for the body X: the same frames, room, the guards that run spare the addresses as -/
structure At (X : Cx) (k : Nat) (A : Around) (as : List Addr) : Prop where
  fr : A.frames = some X.stack
  room : Room k A
  gd : ∃ g, A.guards = some g ∧ ∀ b ∈ as, Clear g b
theorem At.env0 {X : Cx} {k : Nat} {A : Around} {as : List Addr} {pins : List (Addr × Obj)} {σ : L2.St} {H : Hp} {s : Shared} (t : At X k A as) (I : Inv X pins σ H s) : Env0 X.prog X.w X.K X.mg X.base A X.stack s H := by
  have e := I.env0
  exact ⟨t.fr, e.mod, e.bs, e.bsz, e.funs, e.frf, e.hok, e.bare⟩
theorem At.in1 {X : Cx} {k : Nat} {A : Around} {as : List Addr} (t : At X (k + 1) A as) : At X k A.in1 as := by
  obtain ⟨g, h1, h2⟩ := t.gd
  exact ⟨t.fr, t.room.in1, g, h1, h2⟩
theorem At.less {X : Cx} {j k : Nat} {A : Around} {as bs : List Addr} (t : At X k A as) (h : j ≤ k) (hs : ∀ b ∈ bs, b ∈ as) : At X j A bs := by
  obtain ⟨g, h1, h2⟩ := t.gd
  exact ⟨t.fr, t.room.mono h, g, h1, fun b hb => h2 b (hs b hb)⟩

/-- a function called at such a place -/
theorem run_at {X : Cx} {k : Nat} {A : Around} {as : List Addr} {f : Addr} {fd : FuncData} {ps : List Str} {sp : Sp} {pins : List (Addr × Obj)} {σ : L2.St} {H : Hp} {s : Shared} {Q : VK} {us : List Value} {vs : List V} {E : Value → Shared → Prop}
    (F : FnOk X.prog X.w X.K X.mg X.base CX0 k f fd ps sp) (t : At X k A as) (hb : Binds X.K fd ps []) (I : Inv X pins σ H s) (r : Vals vs us) (h : sp vs H Q E0) :
    wpAny (model X.prog X.w) A (call (.ref f) us) (EP X pins σ Q) E s := by
  have hl : us.length = ps.length := by rw [← r.length]; exact F.len _ _ _ _ h
  have b1 := hb s us I.kIn (by rw [List.append_nil]; exact hl)
  rw [List.append_nil] at b1
  refine wpAny_call (codeAny_mono (F.run A X.stack s H ⟨us, []⟩ us vs Q E0 t.room (t.env0 I) b1 r h) fun r s' hq => ?_)
  cases r with
  | error e => exact False.elim hq
  | ok fl =>
    cases fl with
    | ret u => exact I.after hq
    | next => exact False.elim hq
    | brk => exact False.elim hq
    | cont => exact False.elim hq

/-- v is shown by the text t, wherever it is reached (X's heap H, at its time or later) -/
def RpU (X : Cx) (k : Nat) (as : List Addr) (H : Hp) (v : V) (t : Str) : Prop :=
  ∀ (base : Nat) (A : Around) (E : Value → Shared → Prop) (pins : List (Addr × Obj)) (σ : L2.St) (s : Shared) (H1 : Hp) (u : Value) (Q : Str → Shared → Prop),
    base + t.length ≤ sizeLine → At X k A as → Inv X pins σ H1 s → Same H H1 → RelV v u →
    (∀ s' H2, Inv X pins σ H2 s' → Same H1 H2 → Q t s') → wpAny (model X.prog X.w) A (pyReprUnder base u) Q E s
/-- .. and by the call of repr itself -/
def RpT (X : Cx) (k : Nat) (H : Hp) (v : V) (t : Str) : Prop :=
  ∀ (A : Around) (E : Value → Shared → Prop) (pins : List (Addr × Obj)) (σ : L2.St) (s : Shared) (H1 : Hp) (u : Value) (Q : Value → Shared → Prop),
    t.length ≤ sizeLine → A.guards = some [] → A.frames = some X.stack → Room k A → Inv X pins σ H1 s → Same H H1 → RelV v u →
    (∀ s' H2 tk, Inv X pins σ H2 s' → Same H1 H2 → Q (.str t tk) s') → wpAny (model X.prog X.w) A (call (.builtin "repr") [u]) Q E s
theorem RpU.later {X : Cx} {k : Nat} {as : List Addr} {H H' : Hp} {v : V} {t : Str} (r : RpU X k as H v t) (s : Same H H') : RpU X k as H' v t :=
  fun base A E pins σ s0 H1 u Q hb a I hs rv h => r base A E pins σ s0 H1 u Q hb a I (s.trans hs) rv h
theorem RpT.later {X : Cx} {k : Nat} {H H' : Hp} {v : V} {t : Str} (r : RpT X k H v t) (s : Same H H') : RpT X k H' v t :=
  fun A E pins σ s0 H1 u Q hz hg hf hr I hs rv h => r A E pins σ s0 H1 u Q hz hg hf hr I (s.trans hs) rv h
theorem RpU.more {X : Cx} {j k : Nat} {as bs : List Addr} {H : Hp} {v : V} {t : Str} (r : RpU X j as H v t) (h : j ≤ k) (hs : ∀ b ∈ as, b ∈ bs) : RpU X k bs H v t :=
  fun base A E pins σ s0 H1 u Q hb a I hsm rv hq => r base A E pins σ s0 H1 u Q hb (a.less h hs) I hsm rv hq

/-! ### values without parts -/
theorem RpU.of_is {X : Cx} {H : Hp} {v : V} {t : Str} (h : ∀ u, RelV v u → ReprIs X.prog X.w u t) : RpU X 0 [] H v t :=
  fun base A E pins σ s H1 u Q hb a I hs rv hq => h u rv base hb A E s Q fun tk => hq _ H1 (I.tok tk) (Same.refl _)
theorem RpU.int {X : Cx} {H : Hp} {n : Int} (hn : n.natAbs.log2 < 1920) : RpU X 0 [] H (.int n) (toString n) :=
  .of_is fun u ⟨t, e⟩ => by rw [e]; exact ReprIs.int t hn
theorem RpU.str {X : Cx} {H : Hp} {x : Str} (hx : (reprText x).length ≤ sizeLine) : RpU X 0 [] H (.str x) (reprText x) :=
  .of_is fun u ⟨t, e⟩ => by rw [e]; exact ReprIs.str x t hx
theorem RpU.bool {X : Cx} {H : Hp} {b : Bool} : RpU X 0 [] H (.bl b) (if b then "True" else "False") :=
  .of_is fun u (e : u = _) => by rw [e]; exact ReprIs.bool b
theorem RpU.none {X : Cx} {H : Hp} : RpU X 0 [] H .non "None" :=
  .of_is fun u (e : u = _) => by rw [e]; exact ReprIs.none
theorem RpT.int {X : Cx} {H : Hp} {n : Int} (hn : n.natAbs.log2 < 1920) : RpT X 0 H (.int n) (toString n) := by
  rintro A E pins σ s H1 u Q hz hg hf hr I hs ⟨t, rfl⟩ hq
  exact PySem.P.repr_of_int hn (hq _ H1 _ (I.tok _) (Same.refl _))
theorem RpT.str {X : Cx} {H : Hp} {x : Str} (hx : (reprText x).length ≤ sizeLine) : RpT X 0 H (.str x) (reprText x) := by
  rintro A E pins σ s H1 u Q hz hg hf hr I hs ⟨t, rfl⟩ hq
  exact PySem.P.repr_of_str (hq _ H1 _ (I.tok _) (Same.refl _)) hx
theorem RpT.bool {X : Cx} {H : Hp} {b : Bool} : RpT X 0 H (.bl b) (if b then "True" else "False") := by
  intro A E pins σ s H1 u Q hz hg hf hr I hs rv hq
  obtain rfl : u = Value.bool b := rv
  exact PySem.P.repr_of_bool (hq _ H1 _ (I.tok _) (Same.refl _))
theorem RpT.none {X : Cx} {H : Hp} : RpT X 0 H .non "None" := by
  intro A E pins σ s H1 u Q hz hg hf hr I hs rv hq
  obtain rfl : u = Value.none := rv
  exact PySem.P.repr_of_none (hq _ H1 _ (I.tok _) (Same.refl _))

/-! ### data without own instances, by the library -/
/-- a part of the heap that the library shows -/
def RpK (X : Cx) (d : Nat) (as : List Addr) (H : Hp) (v : V) (t : Str) : Prop :=
  ∀ (pins : List (Addr × Obj)) (σ : L2.St) (s : Shared) (H1 : Hp) (u : Value), Inv X pins σ H1 s → Same H H1 → RelV v u → ReprK X.prog X.w as s.heap d u t
theorem RpU.of_K {X : Cx} {d k : Nat} {as : List Addr} {H : Hp} {v : V} {t : Str} (h : RpK X d as H v t) (hd : d ≤ 100) : RpU X k as H v t := by
  intro base A E pins σ s H1 u Q hb a I hs rv hq
  obtain ⟨g, g1, g2⟩ := a.gd
  have hu : A.units + d < cLine := by
    have := a.room.un
    omega
  exact h pins σ s H1 u I hs rv base hb A g E s Q g1 g2 hu (fun _ _ e => e) fun h' tk hk => hq _ H1 (I.kept hk) (Same.refl _)

/-- a tuple of ints and texts -/
inductive Flat : V → Str → Prop
  | int {n : Int} (h : n.natAbs.log2 < 1920) : Flat (.int n) (toString n)
  | str {x : Str} (h : (reprText x).length ≤ sizeLine) : Flat (.str x) (reprText x)
theorem Flat.is {P : Program} {w : World} {v : V} {t : Str} {u : Value} (h : Flat v t) (r : RelV v u) : ReprIs P w u t := by
  cases h with
  | int h => obtain ⟨t, rfl⟩ := r; exact ReprIs.int t h
  | str h => obtain ⟨t, rfl⟩ := r; exact ReprIs.str _ t h
inductive Flats : List V → List Str → Prop
  | nil : Flats [] []
  | cons {v : V} {t : Str} {vs : List V} {ts : List Str} : Flat v t → Flats vs ts → Flats (v :: vs) (t :: ts)
theorem Flats.allK {P : Program} {w : World} {as : List Addr} {h0 : Heap} {d : Nat} : ∀ {vs : List V} {ts : List Str} {us : List Value}, Flats vs ts → Vals vs us → ReprAllK P w as h0 d us ts
  | _, _, _, .nil, .nil => .nil
  | _, _, _, .cons f fs, .cons r rs => .cons (ReprK.of_is (f.is r) as h0 d) (Flats.allK fs rs)
theorem Flats.length {vs : List V} {ts : List Str} (f : Flats vs ts) : ts.length = vs.length := by
  induction f with
  | nil => rfl
  | cons _ _ ih => simp [ih]
theorem Flats.get {vs : List V} {ts : List Str} (f : Flats vs ts) : ∀ {i : Nat} {v : V}, vs[i]? = some v → ∃ t, ts[i]? = some t ∧ Flat v t := by
  induction f with
  | nil => intro i v h; simp at h
  | cons h _ ih =>
    intro i v e
    cases i with
    | zero => simp at e; subst e; exact ⟨_, rfl, h⟩
    | succ i => exact ih (i := i) (by simpa using e)

section
variable {X : Cx} {H : Hp} {a b : Addr} {ts : List Str} {xs : List V}
theorem tup_at {pins : List (Addr × Obj)} {σ : L2.St} {s : Shared} {H1 : Hp} (I : Inv X pins σ H1 s) (h : H1 a = some (.tup xs)) :
    ∃ (o : Obj) (its : List Value) (n : Nat), s.heap.get? a = some o ∧ o.cls = .type "tuple" ∧ o.data = .seq its.toArray n ∧ Vals xs its := by
  obtain ⟨_, its, r, o, h1, h2, n, h3⟩ := (show ObjOk X.prog X.w H1 s.heap a (.tup xs) from I.hok a _ h)
  exact ⟨o, its, n, h1, h2, h3, r⟩
theorem lst_at {pins : List (Addr × Obj)} {σ : L2.St} {s : Shared} {H1 : Hp} (I : Inv X pins σ H1 s) (h : H1 a = some (.lst xs)) :
    ∃ (its : List Value) (n : Nat), s.heap.get? a = some { cls := .type "list", data := .seq its.toArray n } ∧ Vals xs its := by
  obtain ⟨_, its, n, r, h1⟩ := (show ObjOk X.prog X.w H1 s.heap a (.lst xs) from I.hok a _ h)
  exact ⟨its, n, h1, r⟩
theorem RpU.tup (h : H a = some (.tup xs)) (f : Flats xs ts) : RpU X 0 [a] H (.ref a) (tupleText ts) := by
  intro base A E pins σ s H1 u Q hb at_ I hs rv hq
  obtain rfl : u = Value.ref a := rv
  obtain ⟨g, g1, g2⟩ := at_.gd
  obtain ⟨o, its, n, h1, h2, h3, r⟩ := tup_at I (hs _ _ h)
  have hu : A.units + (0 + 1) < cLine := by have := at_.room.un; omega
  have eK : ReprAllK X.prog X.w [] s.heap 0 its.toArray.toList ts := by simpa using f.allK r
  exact wpAny_pyReprUnder_ref (by omega) (wpAny_pyReprObjUnder_tupleK h1 h2 h3 (by simp) eK g1 g2 hu (fun _ _ e => e)
    (fun h' u tk hk => ⟨_, _, rfl, hq _ H1 (I.kept hk) (Same.refl _)⟩) hb)
theorem RpT.tup (h : H a = some (.tup xs)) (f : Flats xs ts) : RpT X 0 H (.ref a) (tupleText ts) := by
  intro A E pins σ s H1 u Q hz hg hf hr I hs rv hq
  obtain rfl : u = Value.ref a := rv
  obtain ⟨o, its, n, h1, h2, h3, r⟩ := tup_at I (hs _ _ h)
  have hu : A.units + 1 + (0 + 1) < cLine := by have := hr.un; omega
  have eK : ReprAllK X.prog X.w [] s.heap 0 its.toArray.toList ts := by simpa using f.allK r
  exact call_repr_slot (by omega) (⟨o, h1, h2⟩ : s.TypeIs (.ref a) "tuple") F.slot_tuple_repr (call_tuple_reprK (A := A.in1) (g := []) h1 h2 h3 (by simp) eK hg (fun b _ => Clear.nil b) hu (fun _ _ e => e)
    (fun h' u tk hk => ⟨_, _, rfl, hq _ H1 _ (I.kept hk) (Same.refl _)⟩) hz)
/-- a list of such, for the library -/
theorem RpK.lst {x : V} {r : List V} (h : H a = some (.lst (x :: r))) (f : Flats (x :: r) ts) : RpK X 1 [a] H (.ref a) (listText ts) := by
  intro pins σ s H1 u I hs rv
  obtain rfl : u = Value.ref a := rv
  obtain ⟨its, n, h1, rr⟩ := lst_at I (hs _ _ h)
  cases rr with
  | @cons _ u0 _ ur r0 r1 =>
    have hl : ts.length = (u0 :: ur).toArray.size := by rw [f.length]; simp [r1.length]
    refine ReprK.list (as := []) (d := 0) h1 rfl rfl (by simp) hl fun i y e => ?_
    have e2 : (u0 :: ur)[i]? = some y := by simpa using e
    have rA : Vals (x :: r) (u0 :: ur) := .cons r0 r1
    have hi : i < (x :: r).length := by
      rw [rA.length]
      exact (List.getElem?_eq_some_iff.mp e2).1
    obtain ⟨y2, e3, r3⟩ := rA.get (List.getElem?_eq_getElem hi)
    rw [e2] at e3
    cases e3
    obtain ⟨t, et, ft⟩ := f.get (List.getElem?_eq_getElem hi)
    exact ⟨t, et, ReprK.of_is (ft.is r3) [] s.heap 0⟩
end
end K0

namespace K0
open PySem PySem.Spec PyProof.Rows L2

/-! ### a dict of one text key, its value a list of ints and texts -/
section
variable {X : Cx} {H : Hp} {a b : Addr} {x : Str} {tv : Str}
theorem dict_one (h : H a = some (.dK [(Sum.inr x, .ref b)])) (hab : a ≠ b) (hx : (reprText x).length ≤ sizeLine) (kv : RpK X 1 [b] H (.ref b) tv) {pins : List (Addr × Obj)} {σ : L2.St} {s : Shared} {H1 : Hp} (I : Inv X pins σ H1 s) (hs : Same H H1) :
    ∃ (o : Obj) (es : Array DictEntry) (n : Nat), s.heap.get? a = some o ∧ o.cls = .type "dict" ∧ o.data = .dict es n ∧ (a == sysModules) = false ∧ ReprEntriesK X.prog X.w [b] s.heap 1 es.toList [reprText x ++ ": " ++ tv] := by
  obtain ⟨_, hsys, vs, kvr, o, es, ep, h1, h2, h3, _, h5, _⟩ := (show ObjOk X.prog X.w H1 s.heap a (.dK [(Sum.inr x, .ref b)]) from I.hok a _ (hs _ _ h))
  refine ⟨o, es, ep, h1, h2.1, h3, hsys, ?_⟩
  cases kvr with
  | @cons p q _ l2 r0 r1 =>
    cases r1
    obtain ⟨k2, v2⟩ := q
    obtain ⟨ek, rv⟩ := r0
    have ek : (Sum.inr x : Key) = k2 := ek
    subst ek
    obtain rfl : v2 = Value.ref b := rv
    generalize es.toList = l at h5
    cases h5 with
    | @cons e _ es' _ hk hv hr =>
      cases hr
      rcases keyIs_shape (show keyIs (Sum.inr x) e.key = true from hk) with ⟨i, t, z, _⟩ | ⟨y, t, z, ey⟩
      · cases z
      · cases z
        refine .cons ?_ ?_ .nil
        · rw [ey]
          exact ReprK.of_is (ReprIs.str x t hx) [b] s.heap 1
        · rw [hv]
          exact kv pins σ s H1 _ I hs rfl
theorem RpU.dct (h : H a = some (.dK [(Sum.inr x, .ref b)])) (hab : a ≠ b) (hx : (reprText x).length ≤ sizeLine) (kv : RpK X 1 [b] H (.ref b) tv) : RpU X 0 [a, b] H (.ref a) (dictText [reprText x ++ ": " ++ tv]) := by
  intro base A E pins σ s H1 u Q hb at_ I hs rv hq
  obtain rfl : u = Value.ref a := rv
  obtain ⟨g, g1, g2⟩ := at_.gd
  obtain ⟨o, es, n, h1, h2, h3, hsys, hE⟩ := dict_one h hab hx kv I hs
  have hu : A.units + (1 + 1) < cLine := by have := at_.room.un; omega
  exact wpAny_pyReprUnder_ref (by omega) (wpAny_pyReprObjUnder_dictK h1 h2 h3 hsys (by simpa using hab) hE g1 g2 hu (fun _ _ e => e)
    (fun h' u tk hk => ⟨_, _, rfl, hq _ H1 (I.kept hk) (Same.refl _)⟩) hb)
theorem RpT.dct (h : H a = some (.dK [(Sum.inr x, .ref b)])) (hab : a ≠ b) (hx : (reprText x).length ≤ sizeLine) (kv : RpK X 1 [b] H (.ref b) tv) : RpT X 0 H (.ref a) (dictText [reprText x ++ ": " ++ tv]) := by
  intro A E pins σ s H1 u Q hz hg hf hr I hs rv hq
  obtain rfl : u = Value.ref a := rv
  obtain ⟨o, es, n, h1, h2, h3, hsys, hE⟩ := dict_one h hab hx kv I hs
  have hu : A.units + 1 + (1 + 1) < cLine := by have := hr.un; omega
  exact call_repr_slot (by omega) (⟨o, h1, h2⟩ : s.TypeIs (.ref a) "dict") F.slot_dict_repr (call_dict_reprK (A := A.in1) (g := []) h1 h2 h3 hsys (by simpa using hab) hE hg (fun b _ => Clear.nil b) hu (fun _ _ e => e)
    (fun h' u tk hk => ⟨_, _, rfl, hq _ H1 _ (I.kept hk) (Same.refl _)⟩) hz)
end

/-! ### an instance of an own class -/
/-- what __repr__ promises: a text, nothing that was tracked is changed -/
def spRepr (C : Addr) (P : Hp → Addr → Str → Prop) : Sp := fun vs H Q _ => ∃ (a : Addr) (t : Str), vs = [.ref a] ∧ P H a t ∧ ∀ H', Same H H' → Q (.str t) H'
structure ReprOf (X : Cx) (C f : Addr) (fd : FuncData) (k : Nat) (P : Hp → Addr → Str → Prop) : Prop where
  fn : FnOk X.prog X.w X.K X.mg X.base CX0 k f fd ["self"] (spRepr C P)
  bd : Binds X.K fd ["self"] []
  at_ : PySem.W.findIn X.K (.ref C) "__repr__" = some (some (.ref f))
  isf : PySem.W.isFn X.K (.ref f) = true
section
variable {X : Cx} {C f a : Addr} {fd : FuncData} {k : Nat} {P : Hp → Addr → Str → Prop} {H : Hp} {t : Str}
theorem own_inst {pins : List (Addr × Obj)} {σ : L2.St} {s : Shared} {H1 : Hp} (I : Inv X pins σ H1 s) {dx : Addr} {fs : List (Str × V)} (h : H1 a = some (.ins C dx fs)) : ∃ ox od, PySem.W.InstAt s.heap a ox C od := by
  obtain ⟨mA, O, _⟩ := ins_get I.hok h
  obtain ⟨od, J, _⟩ := O.look
  exact ⟨_, _, J⟩
theorem RpU.own (R : ReprOf X C f fd k P) {dx : Addr} {fs : List (Str × V)} (h : H a = some (.ins C dx fs)) (p : ∀ H1, Same H H1 → P H1 a t) : RpU X k [] H (.ref a) t := by
  intro base A E pins σ s H1 u Q hb at_ I hs rv hq
  obtain rfl : u = Value.ref a := rv
  obtain ⟨ox, od, J⟩ := own_inst I (hs _ _ h)
  refine wpAny_pyReprUnder_ref (by omega) ?_
  unfold pyReprObjUnder pyReprObjBy
  refine wpAny_bind (wpAny_cRoomFor (by have := at_.room.un; omega) ?_)
  refine wpAny_bind (wpAny_bind (J.type.here ((PySem.W.looks_findIn I.kIn R.at_).here ?_)))
  show wpAny _ _ (if (some (Value.ref f)).isNone = true then _ else _) _ _ _
  rw [if_neg (by simp)]
  refine wpAny_bind ?_
  unfold callSpecialIfBoundBy? bindSpecialIfBound?
  refine wpAny_holding (wpAny_bind (wpAny_bind (wpAny_bind (J.type.here ((PySem.W.looks_findIn I.kIn R.at_).here ?_)))))
  refine wpAny_bind (wpAny_askSetting (wpAny_ite ?_))
  have go : wpAny (model X.prog X.w) A (call (.ref f) [.ref a]) (fun r s' => ∃ y tk, r = .str y tk ∧ Q y s') E s := by
    refine thn (run_at (vs := [.ref a]) (us := [.ref a]) (Q := fun v H2 => v = .str t ∧ Same H1 H2) R.fn at_ R.bd I (.cons rfl .nil) ⟨a, t, rfl, p H1 hs, fun H' hs' => ⟨rfl, hs'⟩⟩) fun r s' hr => ?_
    obtain ⟨v, H2, I2, rv2, rfl, hs2⟩ := hr
    obtain ⟨tk, rfl⟩ := rv2
    exact ⟨t, tk, rfl, hq s' H2 I2 hs2⟩
  have fin : ∀ Q' : Option Value → Shared → Prop, (∀ r s', (∃ y tk, r = .str y tk ∧ Q y s') → Q' (some r) s') → wpAny (model X.prog X.w) A (call (.ref f) ([.ref a] ++ []) >>= fun v => pure (some v)) Q' E s :=
    fun Q' h' => wpAny_bind (wpAny_mono go (fun r s' hr => wpAny_pure (h' r s' hr)) fun _ _ z => z)
  split
  all_goals first
    | refine wpAny_bind ((PySem.W.bind_fn I.kIn _ (beq_iff_eq.mp R.isf)).here (wpAny_pure ?_))
    | refine wpAny_tryCatch (wpAny_bind ((PySem.W.bind_fn I.kIn _ (beq_iff_eq.mp R.isf)).here (wpAny_pure ?_)))
  all_goals
    show wpAny _ _ (call (.ref f) ([.ref a] ++ []) >>= fun v => pure (some v)) _ _ _
    refine fin _ fun r s' hr => ?_
    obtain ⟨y, tk, rfl, q⟩ := hr
    refine wpAny_bind (wpAny_isInstance (typeIs_str _ _ _) isSubtype_str_str ?_)
    first
      | exact wpAny_pure ⟨_, _, rfl, q⟩
      | (rw [if_pos rfl]; exact wpAny_pure ⟨_, _, rfl, q⟩)
      | (simp only [if_true]; exact wpAny_pure ⟨_, _, rfl, q⟩)
theorem RpT.own (R : ReprOf X C f fd k P) {dx : Addr} {fs : List (Str × V)} (h : H a = some (.ins C dx fs)) (p : ∀ H1, Same H H1 → P H1 a t) : RpT X (k + 1) H (.ref a) t := by
  intro A E pins σ s H1 u Q hz hg hf hr I hs rv hq
  obtain rfl : u = Value.ref a := rv
  obtain ⟨ox, od, J⟩ := own_inst I (hs _ _ h)
  obtain ⟨m, fr⟩ := I.fr
  have at_ : At X (k + 1) A [] := ⟨hf, hr, [], hg, fun _ z => nomatch z⟩
  refine PySem.W.repr_K (by have := hr.un; show A.units + 1 < cLine; omega) fr I.ok.mod.kin J R.at_ R.isf ?_
  refine thn (run_at (vs := [.ref a]) (us := [.ref a]) (Q := fun v H2 => v = .str t ∧ Same H1 H2) R.fn at_.in1 R.bd I (.cons rfl .nil) ⟨a, t, rfl, p H1 hs, fun H' hs' => ⟨rfl, hs'⟩⟩) fun r s' hr => ?_
  obtain ⟨v, H2, I2, rv2, rfl, hs2⟩ := hr
  obtain ⟨tk, rfl⟩ := rv2
  exact hq s' H2 tk I2 hs2
end
end K0

namespace K0
open PySem PySem.Spec PyProof.Rows L2
open Builtin
open Builtin.List

/-- each item is shown by its text -/
def RpAll (X : Cx) (k : Nat) (as : List Addr) (H : Hp) (xs : List V) (ts : List Str) : Prop := ts.length = xs.length ∧ ∀ (i : Nat) (x : V), xs[i]? = some x → ∃ t, ts[i]? = some t ∧ RpU X k as H x t
theorem RpAll.nil {X : Cx} {k : Nat} {as : List Addr} {H : Hp} : RpAll X k as H [] [] := ⟨rfl, fun i x e => by simp at e⟩
theorem RpAll.cons {X : Cx} {k : Nat} {as : List Addr} {H : Hp} {x : V} {t : Str} {xs : List V} {ts : List Str} (h : RpU X k as H x t) (r : RpAll X k as H xs ts) : RpAll X k as H (x :: xs) (t :: ts) := by
  refine ⟨by simp [r.1], fun i y e => ?_⟩
  cases i with
  | zero => simp at e; subst e; exact ⟨t, rfl, h⟩
  | succ i => exact r.2 i y (by simpa using e)

theorem under_loop_frames {A : Around} {args : Args} {l : List Env} (h : A.frames = some l) : (A.under (.builtin "list.__repr__.loop" args)).frames = some l := by
  first | exact h | (simpa [Around.under, Code.envs, Code.isFrame, pushEnvs] using h)
theorem under_loop_depth {A : Around} {args : Args} : (A.under (.builtin "list.__repr__.loop" args)).depth = A.depth + 1 := by
  have e := isGuard_list_loop args
  show A.depth + Code.weight _ = A.depth + 1
  have c1 : (Code.builtin "list.__repr__.loop" args).isCreation = false := by
    first | rfl | (simp [Code.isCreation])
  have c2 : (Code.builtin "list.__repr__.loop" args).isCaller = false := by
    first | rfl | (simp [Code.isCaller])
  unfold Code.weight
  rw [e, c1, c2]
  rfl
theorem At.loop {X : Cx} {k : Nat} {A : Around} {a : Addr} {as : List Addr} {rest : List Value} (t : At X (k + 1) A as) (hn : a ∉ as) : At X k (A.under (.builtin "list.__repr__.loop" ⟨.ref a :: rest, []⟩)) as := by
  obtain ⟨g, h1, h2⟩ := t.gd
  refine ⟨under_loop_frames t.fr, ⟨t.room.hd, ?_, ?_⟩, _, guards_under_guard (isGuard_list_loop _) h1, fun b hb => (h2 b hb).cons (a := a) fun e => hn (e ▸ hb)⟩
  · rw [under_loop_depth]; have := t.room.dp; omega
  · rw [units_under_list_loop]; have := t.room.un; omega

section
variable {X : Cx} {H : Hp} {a P : Addr} {xs : List V} {ts : List Str} {as : List Addr} {k base : Nat} {A : Around} {pins : List (Addr × Obj)} {σ : L2.St} {R : Result → Shared → Prop}
theorem loop_own (hne : a ≠ P) (hP0 : H P = none) (hn : a ∉ as) (at_ : At X (k + 1) A as) (ha : H a = some (.lst xs)) (r : RpAll X k as H xs ts) (hsz : base + (listText ts).length ≤ sizeLine) :
    ∀ (n i : Nat) (s : Shared) (H1 : Hp), xs.length - i = n → i ≤ xs.length → Inv X pins σ H1 s → Same H H1 → H1 P = some (.lst ((ts.take i).map V.str)) →
    (∀ s' H2 u, Inv X pins σ H2 s' → Same H H2 → (∀ b o, b ≠ P → H1 b = some o → H2 b = some o) → R (.ok (.ret (.str (listText ts) u))) s') →
    codeAny (model X.prog X.w) A (.builtin "list.__repr__.loop" ⟨[.ref a, rawInt i, .ref P, rawInt ((base + piled (ts.take i) : Nat) : Int)], []⟩) R s := by
  have hL := textFrom_len ts 0 "["
  have hX : (listText ts).length = (textFrom 0 "[" ts).length + 1 := by
    show (textFrom 0 "[" ts ++ "]").length = _
    rw [strLen_append]; rfl
  have hsz2 : ∀ t ∈ ts, t.length ≤ sizeLine := fun t ht => by
    have h2 := hL.2.1 t ht
    omega
  have hsz1 : ts.length ≤ sizeLine := by
    have h1 := hL.1
    rw [if_neg (Nat.lt_irrefl 0)] at h1
    omega
  have hp3 := piled_le_listText ts
  intro n
  induction n with
  | zero =>
    intro i s H1 hk hi I hs hP hR
    have hin : i = xs.length := by omega
    obtain ⟨its, na, h1, rv⟩ := lst_at I (hs _ _ ha)
    obtain ⟨ps, np, h2, rp⟩ := lst_at I hP
    refine codeAny_builtin F.entry_list_repr_loop ?_
    show wpAny _ _ («list.__repr__.loop» ⟨[.ref a, .int i 0, .ref P, .int ((base + piled (ts.take i) : Nat) : Int) 0], []⟩) _ _ s
    rw [repr_loop_tree]
    refine wpAny_bind (wpAny_listItems h1 rfl ?_)
    have hnone : its.toArray[(i : Int).toNat]? = none := by simp [hin, rv.length]
    simp only [hnone]
    unfold reprEnd
    refine wpAny_bind (wpAny_listItems h2 rfl ?_)
    have hall : ts.take i = ts := by rw [hin, ← r.1, List.take_length]
    rw [hall] at rp
    have asStrs : ∀ (l : List Str) (us : List Value), Vals (l.map V.str) us → ∃ d : List (Str × Tok), us = strValues d ∧ d.map (·.1) = l := by
      intro l
      induction l with
      | nil => intro us z; cases z; exact ⟨[], rfl, rfl⟩
      | cons x l ih =>
        intro us z
        cases z with
        | cons z1 z2 =>
          obtain ⟨t, rfl⟩ := z1
          obtain ⟨d, rfl, e⟩ := ih _ z2
          exact ⟨(x, t) :: d, rfl, by simp [e]⟩
    obtain ⟨d, e1, e2⟩ := asStrs ts ps rp
    have e3 : ps.toArray.toList = strValues d := by simp [e1]
    rw [e3, repr_fold]
    refine wpAny_bind (wpAny_pure ?_)
    rw [e2]
    refine wpAny_bind (wpAny_mkStr (wpAny_pure ?_) (Nat.le_trans (Nat.le_add_left _ _) hsz))
    exact hR _ H1 _ (I.tok _) hs (fun b o _ e => e)
  | succ n ih =>
    intro i s H1 hk hi I hs hP hR
    have hlt : i < xs.length := by omega
    obtain ⟨its, na, h1, rv⟩ := lst_at I (hs _ _ ha)
    obtain ⟨t, ht, hrep⟩ := r.2 i xs[i] (List.getElem?_eq_getElem hlt)
    obtain ⟨u, hu, ru⟩ := rv.get (List.getElem?_eq_getElem hlt)
    have hp1 := piled_take_succ ht
    have hp2 := piled_take_le ts (i + 1)
    refine codeAny_builtin F.entry_list_repr_loop ?_
    show wpAny _ _ («list.__repr__.loop» ⟨[.ref a, .int i 0, .ref P, .int ((base + piled (ts.take i) : Nat) : Int) 0], []⟩) _ _ s
    rw [repr_loop_tree]
    refine wpAny_bind (wpAny_listItems h1 rfl ?_)
    have hsome : its.toArray[(i : Int).toNat]? = some u := by simpa using hu
    simp only [hsome]
    rw [Int.toNat_natCast]
    refine wpAny_bind (wpAny_holding (hrep (base + piled (ts.take i) + 1) _ _ pins σ s H1 u _ (by omega) (at_.loop hn) I hs ru fun s' H2 I2 hs2 => ?_))
    refine wpAny_bind (wpAny_mkStr ?_ (hsz2 t (List.mem_of_getElem? ht)))
    refine wpAny_bind ?_
    show wpAny _ _ (updateSeq P _) _ _ _
    have I3 := I2.tok (s'.toks + 1)
    have hP2 := hs2 _ _ hP
    obtain ⟨zp, ps, np, rp, h2⟩ := (show ObjOk X.prog X.w H2 s'.heap P _ from I2.hok P _ hP2)
    have lp : ps.length = i := by
      rw [← Paired.length rp]
      simp
      rw [r.1]; omega
    have pz : ps.toArray.size ≤ sizeLine := by
      show ps.length ≤ _
      rw [lp, ← r.1] at *
      omega
    have rvs : Vals ((ts.take (i + 1)).map V.str) (ps ++ [.str t s'.toks]) := by
      rw [List.take_add_one, ht]
      simp only [Option.toList, List.map_append, List.map_cons, List.map_nil]
      exact rp.append (.cons ⟨_, rfl⟩ .nil)
    have lz : ((ts.take (i + 1)).map V.str).length ≤ sizeLine := by
      rw [List.length_map, List.length_take]
      omega
    have J := I3.lset (l := P) (f := fun p => p.push (.str t s'.toks)) (t' := s'.toks + 1) hP2 h2 (by simp) rvs lz
    refine wpAny_updateSeq h2 rfl (wpAny_pure ⟨F.quiet_list_repr_loop _, ?_⟩) pz
    have e1 : ((i : Int) + 1) = ((i + 1 : Nat) : Int) := by omega
    have e2 : base + piled (ts.take i) + (t.length + 2) = base + piled (ts.take (i + 1)) := by omega
    rw [e1, e2]
    have sP : ∀ b o, b ≠ P → H2 b = some o → upd H2 P (.lst ((ts.take (i + 1)).map V.str)) b = some o := fun b o hb e => by rw [upd_ne hb]; exact e
    have hs3 : Same H (upd H2 P (.lst ((ts.take (i + 1)).map V.str))) := fun b o e => sP b o (ne_of_none e hP0) (hs2 _ _ (hs _ _ e))
    refine ih (i + 1) _ _ (by omega) hlt J hs3 upd_same fun s4 H4 u4 I4 hs4 k4 => ?_
    exact hR s4 H4 u4 I4 hs4 fun b o hb e => k4 b o hb (sP b o hb (hs2 _ _ e))
end
end K0

namespace K0
open PySem PySem.Spec PyProof.Rows L2
open Builtin
open Builtin.List

section
variable {X : Cx} {H : Hp} {a : Addr} {x0 : V} {r0 : List V} {ts : List Str} {as : List Addr} {k base : Nat} {A : Around} {pins : List (Addr × Obj)} {σ : L2.St} {R : Result → Shared → Prop} {s : Shared} {H1 : Hp}
theorem head_own (hn : a ∉ as) (at_ : At X (k + 1) A (a :: as)) (ha : H a = some (.lst (x0 :: r0))) (r : RpAll X k as H (x0 :: r0) ts) (hsz : base + (listText ts).length ≤ sizeLine) (I : Inv X pins σ H1 s) (hs : Same H H1)
    (hR : ∀ s' H2 u, Inv X pins σ H2 s' → Same H1 H2 → R (.ok (.ret (.str (listText ts) u))) s') :
    wpAny (model X.prog X.w) A.in1 (Builtin.listReprAt base ⟨[.ref a], []⟩)
      (fun fin s' => match fin with | .done f => R (.ok f) s' | .again c' => c'.quiet = true ∧ codeAny (model X.prog X.w) A c' R s') (fun e s' => R (.error e) s') s := by
  obtain ⟨g, g1, g2⟩ := at_.gd
  obtain ⟨its, na, h1, rv⟩ := lst_at I (hs _ _ ha)
  have hca : Clear g a := g2 a (.head _)
  cases rv with
  | @cons _ u0 _ ur q0 q1 =>
    refine wpAny_list_repr_head (A := A.in1) g1 (fun v rest kw hm => listSameRef_of_ne (hca _ _ _ _ hm)) h1 rfl ?_
    refine wpAny_bind (m := newList []) (wpAny_newObj_type ?_)
    refine wpAny_pure ⟨F.quiet_list_repr_loop _, ?_⟩
    have hP : H1 s.heap.objs.size = none := I.hok.fresh (Nat.le_refl _)
    have J := I.lnew (its := []) (ys := []) (t' := s.toks) .nil (Nat.zero_le _)
    have hP0 : H s.heap.objs.size = none := hs.free hP
    have hne : a ≠ s.heap.objs.size := ne_of_none ha hP0
    have sm : Same H1 (upd H1 s.heap.objs.size (.lst [])) := fun b o e => by rw [upd_ne (ne_of_none e hP)]; exact e
    refine loop_own (P := s.heap.objs.size) hne hP0 hn (at_.less (Nat.le_refl _) fun b hb => .tail _ hb) ha r hsz _ 0 _ _ rfl (Nat.zero_le _) J (hs.trans sm) (by simpa using upd_same) fun s' H2 u I2 hs2 k2 => ?_
    exact hR s' H2 u I2 fun b o e => k2 b o (ne_of_none e hP) (sm b o e)
end
section
variable {X : Cx} {H : Hp} {a : Addr} {x0 : V} {r0 : List V} {ts : List Str} {as : List Addr} {k : Nat}
theorem RpU.lst (hn : a ∉ as) (ha : H a = some (.lst (x0 :: r0))) (r : RpAll X k as H (x0 :: r0) ts) : RpU X (k + 1) (a :: as) H (.ref a) (listText ts) := by
  intro base A E pins σ s H1 u Q hb at_ I hs rv hq
  obtain rfl : u = Value.ref a := rv
  obtain ⟨its, na, h1, rv⟩ := lst_at I (hs _ _ ha)
  have hT : s.TypeIs (.ref a) "list" := ⟨_, h1, rfl⟩
  refine wpAny_pyReprUnder_ref (by omega) (wpAny_pyReprObjUnder_twin (twin := "list.__repr__.under") hT F.slot_list_repr.toG rfl (by have := at_.room.un; omega)
    (call_twin_plain F.plain_list_repr_under F.entry_list_repr_under F.check_list_repr_under hT F.slot_list_repr.toG (F.args_list_repr_1 _) ?_))
  exact head_own hn at_ ha r hb I hs fun s' H2 u I2 hs2 => ⟨⟨_, _, rfl⟩, _, _, rfl, hq s' H2 I2 hs2⟩
theorem RpT.lst (hn : a ∉ as) (ha : H a = some (.lst (x0 :: r0))) (r : RpAll X k as H (x0 :: r0) ts) : RpT X (k + 2) H (.ref a) (listText ts) := by
  intro A E pins σ s H1 u Q hz hg hf hr I hs rv hq
  obtain rfl : u = Value.ref a := rv
  obtain ⟨its, na, h1, rv⟩ := lst_at I (hs _ _ ha)
  have hT : s.TypeIs (.ref a) "list" := ⟨_, h1, rfl⟩
  have at_ : At X (k + 2) A (a :: as) := ⟨hf, hr, [], hg, fun b _ => Clear.nil b⟩
  refine call_repr_slot (by have := hr.un; omega) hT F.slot_list_repr.toG ?_
  refine wpAny_call (codeAny_call_builtin F.slot_list_repr.plain F.entry_list_repr (F.slot_list_repr.check _ _ _ _ _ _ _ _ hT (F.args_list_repr_1 _) ?_))
  exact head_own (base := 0) (A := A.in1) (R := fun r s' => match r with
    | .ok (.ret v) => ∃ x t, v = Value.str x t ∧ Q v s'
    | .ok _ => False
    | .error e => E e s') hn at_.in1 ha r (by omega) I hs fun s' H2 u I2 hs2 => ⟨_, _, rfl, hq s' H2 _ I2 hs2⟩
theorem RpT.nilL (ha : H a = some (.lst [])) : RpT X 0 H (.ref a) "[]" := by
  intro A E pins σ s H1 u Q hz hg hf hr I hs rv hq
  obtain rfl : u = Value.ref a := rv
  obtain ⟨its, na, h1, rv⟩ := lst_at I (hs _ _ ha)
  cases rv
  have hT : s.TypeIs (.ref a) "list" := ⟨_, h1, rfl⟩
  exact call_repr_slot (by have := hr.un; omega) hT F.slot_list_repr.toG (call_list_repr_empty hT h1 rfl ⟨_, _, rfl, hq _ H1 _ (I.tok _) (Same.refl _)⟩)
/-- repr(v): wherever the guards are none -/
def rRepr (X : Cx) : List V → Hp → VK → Prop := fun xs H Q => ∃ (v : V) (k : Nat) (t : Str), xs = [v] ∧ RpT X k H v t ∧ Room k X.A ∧ t.length ≤ sizeLine ∧ ∀ H', Same H H' → Q (.str t) H'
theorem call_reprX (hg : X.A.guards = some []) : CallR X (.builtin "repr") (rRepr X) := by
  intro pins s σ H xs us Q I r h
  obtain ⟨v, k, t, rfl, h, hr, hz, q⟩ := h
  obtain ⟨u, rfl, ru⟩ := Vals.one r
  exact h X.A X.xe pins σ s H u _ hz hg I.ok.frames hr I (Same.refl _) ru fun s' H2 tk I2 hs2 => ⟨.str t, H2, I2, ⟨tk, rfl⟩, q H2 hs2⟩
end
end K0

/-! Defs that ask repr: they keep their promise where no guard runs. -/
namespace K0
open PySem PySem.Spec PyProof.Rows L2

structure FnG (P : Program) (w : World) (K : PySem.W.Frag) (mg : Str → Option Value) (base : Heap) (k : Nat) (f : Addr) (fd : FuncData) (ps : List Str) (sp : Sp) : Prop where
  len : ∀ vs H Q E, sp vs H Q E → vs.length = ps.length
  run : ∀ (A : Around) (outer : List Env) (s : Shared) (H : Hp) (args : Args) (us : List Value) (vs : List V) (Q : VK), A.guards = some [] → Room k A → Env0 P w K mg base A outer s H → BindsTo s fd args (ps.zip us) →
    Vals vs us → sp vs H Q E0 → codeAny (model P w) A (.call (.ref f) args) (CR CX0 outer P w H s Q E0) s
theorem deeper_guards (A : Around) (env : Env) : (A.deeper env).guards = A.guards := by
  first | rfl | simp [Around.deeper]

section
variable {P : Program} {w : World} {K : PySem.W.Frag} {mg : Str → Option Value} {base : Heap} {k : Nat} {f : Addr} {fd : FuncData} {x qual : Str} {params : Arguments} {body : List Stmt} {scope : Scope} {dvs : List V} {kws : List (Str × V)} {N ps : List Str} {sp : Sp}
theorem fnG_of (F : FunD K x qual params body scope dvs kws f fd) (S : FnScope N ps scope) (len : ∀ vs H Q E, sp vs H Q E → vs.length = ps.length)
    (hbody : ∀ (cdv : Value) (A : Around) (outer : List Env) (s : Shared) (H : Hp) (vs : List V) (Q : VK), A.guards = some [] → Room k (A.deeper (envOfC qual scope s.heap.objs.size f cdv)) → sp vs H Q E0 →
      ∃ t, PSs (cxOf CX0 P w K mg base N qual scope f cdv A outer s H E0) body t ∧ t { nx := fun _ H' => Q .non H', rt := Q } (start N vs) H) : FnG P w K mg base (k + 1) f fd ps sp := by
  obtain ⟨oc, od, dV, kV, doc, pm, an, cdv, ct, osl, rfl, lk, hcd, _, _⟩ := F.ex
  refine ⟨len, fun A outer s H args us vs Q hg hr e0 hb r hsp => ?_⟩
  have hl := len _ _ _ _ hsp
  have KX : K.In s.heap := e0.mod.kin.keeps fun b o e => (e0.bs b o e).1
  have lim : s.heap.NoLimit := e0.mod.nolimit.keeps fun b o e => (e0.bs b o e).1
  have hkind : ∀ y ∈ ps.zip us, scope.names.lookup y.1 = some .local ∨ (scope.names.lookup y.1 = some .cell ∧ ((cellsFrom (s.heap.objs.size + 1) scope.names []).lookup y.1).isSome = true) := by
    rintro ⟨n, v⟩ hy
    have hn := (List.of_mem_zip hy).1
    rcases S.par n hn with q | q
    · exact .inl q
    · exact .inr ⟨q, PySem.W.cellsFrom_some _ _ _ (.inl q)⟩
  refine codeAny_call_function hr.depth (KX _ _ lk) rfl S.co S.gen rfl (PySem.W.codeRec_of KX hcd) (hb _ _ _ _ ?_)
  refine wpAny_newFunctionEnv_cells S.kind hkind fun env he s1 x => ?_
  subst he
  refine ⟨lim.keeps x.toInCall.keep, codeAny_func ?_⟩
  obtain ⟨t, ht, hq⟩ := hbody cdv A outer s H vs Q hg (hr.deeper _) hsp
  have I := inv_start (CX := CX0) (P := P) (w := w) (K := K) (mg := mg) (base := base) (N := N) (qual := qual) (cd := cdv) (E := E0) S hr.hd e0 hl r x
  refine wpAny_mono (ht.run [] s1 (start N vs) H _ I hq) (fun fl s' hs => ?_) fun e s' hs => hs
  have fin : ∀ {σ' : L2.St} {H' : Hp} {v : V} {u : Value}, Inv (cxOf CX0 P w K mg base N qual scope f cdv A outer s H E0) [] σ' H' s' → RelV v u → Q v H' → CE outer P w H s Q u s' :=
    fun {σ' H' v u} J rv q => ⟨v, H', J.os, J.bare, J.base, J.hok, rv, q⟩
  cases fl with
  | ret u =>
    obtain ⟨v, σ', H', J, rv, q⟩ := hs
    exact fin J rv q
  | next =>
    obtain ⟨σ', H', J, q⟩ := hs
    exact fin (v := .non) (u := Value.none) J rfl q
  | brk =>
    obtain ⟨_, _, _, q⟩ := hs
    exact q.elim
  | cont =>
    obtain ⟨_, _, _, q⟩ := hs
    exact q.elim
end

section
variable {X : Cx} {k : Nat} {f : Addr} {fd : FuncData} {ps : List Str} {sp : Sp} {x : Str} {p pos : Pos} {e : Expr} {es : List Expr} {t : TA}
/-- f(e, ..) of such a def -/
theorem pe_callG (F : FnG X.prog X.w X.K X.mg X.base k f fd ps sp) (hG : X.A.guards = some []) (hr : Room k X.A) (hg : Gl X x) (hm : X.mg x = some (.ref f)) (hk : PySem.W.keepIn X.K (.ref f) = true) (hb : Binds X.K fd ps [])
    (ha : PA X (e :: es) t) (hdb : (x == ("__debug__" : Str)) = false := by decide) (he : starEach (e :: es) X.env = (false, eval e X.env) :: starEach es X.env := by rfl) (hpl : (backTo pos (starEach es X.env)).any (·.1) = false := by rfl) :
    PE X (.Call (.Name x p) (e :: es) [] pos) (fun σ H Q => t σ H fun vs H1 => sp vs H1 Q E0) := by
  refine ⟨fun pins s σ H Q I h => ?_⟩
  refine wpAny_Call_Name_kw (ld_glob I hg hm ?_ hdb)
  refine PySem.W.callWith_K (h₀ := X.base) I.ok.mod.kin hk (thn (ha.run pos pins s σ H _ I h) fun us s1 ⟨vs, H1, I1, r, q⟩ => ⟨I1.kIn, ?_⟩) he hpl
  show wpAny _ _ (call (.ref f) us) _ _ _
  have hl : us.length = ps.length := by rw [← r.length]; exact F.len _ _ _ _ q
  have b1 := hb s1 us I1.kIn (by rw [List.append_nil]; exact hl)
  rw [List.append_nil] at b1
  refine wpAny_call (codeAny_mono (F.run X.A X.stack s1 H1 ⟨us, []⟩ us vs Q hG hr I1.env0 b1 r q) fun r s' hq => ?_)
  cases r with
  | error e => exact False.elim hq
  | ok fl =>
    cases fl with
    | ret u => exact I1.after hq
    | next => exact False.elim hq
    | brk => exact False.elim hq
    | cont => exact False.elim hq
end

/-- the law's call, from its promise -/
theorem lawG_call {P : Program} {w : World} {K : PySem.W.Frag} {mg mb : Str → Option Value} {k : Nat} {fa a : Addr} {fd : FuncData} {x : Str} {sp : Sp} {s1 : Shared} {vs : List Value} {ns : List Int}
    (KX : K.In s1.heap) (hns : s1.heap.Ns mainGlobals mg) (hb : s1.heap.Ns builtinsNs mb) (hbb : ∀ x : Str, x ≠ "__name__" → mb x = bootBuiltins x) (hlim : s1.heap.NoLimit) (hg : s1.gens = #[])
    (ha : s1.heap.get? a = some { cls := .type "list", data := .seq vs.toArray }) (hi : IntsAre vs ns) (hl : ns.length ≤ sizeLine) (hr : Room k callerA)
    (F : ∀ base : Heap, K.In base → base.Ns mainGlobals mg → FnG P w K mg base k fa fd [x] sp) (hbind : ∀ (s : Shared) (u : Value), BindsTo s fd ⟨[u], []⟩ [(x, u)])
    (hsp : ∀ H : Hp, Only H → SqL K H a (ns.map V.int) → sp [.ref a] H (fun v _ => v = .bl true) E0) :
    codeAny (model P w) callerA (.call (.ref fa) ⟨[.ref a], []⟩) (fun r s' => r = .ok (.ret (.bool true)) ∧ OldK s1.heap s'.heap ∧ s'.os = s1.os ∧ AllBare s'.gens) s1 := by
  have rv := vals_ints hi
  have lenV := hi.length
  let so : Obj := { cls := .type "list", data := .seq vs.toArray }
  -- the abstract heap: the script alone, where it is no object of the module
  let H : Hp := fun b => if b = a ∧ K.lookup a = none then some (.frz so (.lst (ns.map V.int))) else none
  have Hsome : ∀ b u, H b = some u → b = a ∧ K.lookup a = none ∧ u = .frz so (.lst (ns.map V.int)) := fun b u e => by
    by_cases c : b = a ∧ K.lookup a = none
    · have e2 : H b = some (.frz so (.lst (ns.map V.int))) := if_pos c
      rw [e2] at e
      exact ⟨c.1, c.2, (Option.some.inj e).symm⟩
    · have e2 : H b = none := if_neg c
      rw [e2] at e
      cases e
  have hO : Only H := fun b => by
    cases e : H b with
    | none => exact .inl rfl
    | some u =>
      obtain ⟨_, _, rfl⟩ := Hsome b u e
      exact .inr ⟨_, _, rfl⟩
  have hS : SqL K H a (ns.map V.int) := by
    cases hk : K.lookup a with
    | none => exact .inl (.inr ⟨so, if_pos ⟨rfl, hk⟩⟩)
    | some o =>
      have e := KX a o hk
      rw [ha] at e
      cases e
      exact .inr ⟨_, vs.toArray, _, hk, rfl, rfl, rfl, by rw [List.size_toArray, lenV]; exact hl, by simpa using rv⟩
  have hok : HOk P w H s1.heap := fun b u e => by
    obtain ⟨rfl, _, rfl⟩ := Hsome b u e
    exact ⟨ha, by rw [List.length_map]; exact hl, vs, _, rv, ha⟩
  have free : ∀ {b : Addr} {o : Obj}, s1.heap.get? b = some o → (∀ n, o.data ≠ .seq vs.toArray n) → H b = none := fun {b o} e d => by
    cases q : H b with
    | none => rfl
    | some u =>
      obtain ⟨rfl, _, _⟩ := Hsome b u q
      rw [ha] at e
      cases e
      exact absurd rfl (d _)
  have nsK : ∀ {b : Addr} {m : Str → Option Value}, s1.heap.Ns b m → (hidT s1.heap H).Ns b m := fun {b m} ⟨o, es, ep, e, d, r⟩ => ⟨o, es, ep, hidT_get e (free e fun n z => by rw [d] at z; cases z), d, r⟩
  have hKb : K.In (hidT s1.heap H) := fun b o e => hidT_get (KX b o e) (by
    cases q : H b with
    | none => rfl
    | some u =>
      obtain ⟨rfl, z, _⟩ := Hsome b u q
      rw [z] at e
      cases e)
  obtain ⟨mc, l1, l2⟩ := hlim
  have hM : Mod K mg (hidT s1.heap H) := ⟨hKb, nsK hns, ⟨mb, nsK hb, hbb⟩, ⟨mc, nsK l1, l2⟩⟩
  have e0 : Env0 P w K mg (hidT s1.heap H) callerA [] s1 H := ⟨rfl, hM, fun b o e => of_hidT e, Nat.le_of_eq (hidT_size _ _), trivial, fun b hb => absurd (show b ∈ ([] : List Addr) from hb) (by simp), hok, .of_eq hg⟩
  refine codeAny_mono ((F _ hKb (nsK hns)).run callerA [] s1 H ⟨[.ref a], []⟩ [.ref a] [.ref a] _ rfl hr e0 (hbind s1 (.ref a)) (.cons rfl .nil) (hsp H hO hS)) fun r s' h => ?_
  cases r with
  | error e => exact False.elim h
  | ok fl =>
    cases fl with
    | next => exact False.elim h
    | brk => exact False.elim h
    | cont => exact False.elim h
    | ret u =>
      obtain ⟨v, H', os, bare, un, hok', r', q⟩ := h
      obtain rfl : v = .bl true := q
      obtain rfl : u = Value.bool true := r'
      refine ⟨rfl, OldK.of_keep fun b o e => ?_, os, bare⟩
      cases q : H b with
      | none => exact un.keep b o e q (fun z => absurd (show b ∈ ([] : List Addr) from z) (by simp)) (by simp)
      | some u =>
        obtain ⟨rfl, _, rfl⟩ := Hsome b u q
        have z2 := un.frzs _ _ _ q
        obtain ⟨e2, _⟩ := hok' _ _ z2
        rw [ha] at e
        cases e
        exact e2
end K0

/-! The text by places; what the law's own text needs of the module. -/
namespace K0
open PySem PySem.Spec PyProof.Rows L2

/-- a def of the text, no defaults -/
abbrev DefAt (K : PySem.W.Frag) (x qual : Str) (st : Stmt) (f : Addr) (fd : FuncData) : Prop := FunD K x qual (defArgs st) (defBody st) (defScope st) [] [] f fd
/-- the built-in names that the module has not stored -/
structure Glob (mg : Str → Option Value) : Prop where
  abs : mg "abs" = none
  int : mg "int" = none
  len : mg "len" = none
  str : mg "str" = none
  bool : mg "bool" = none
  repr : mg "repr" = none
  isi : mg "isinstance" = none
  enum : mg "enumerate" = none
  range : mg "range" = none
  ve : mg "ValueError" = none
  le : mg "LookupError" = none
  te : mg "TypeError" = none
  ae : mg "ArithmeticError" = none
  re : mg "RuntimeError" = none
  at_ : mg "AttributeError" = none
  gcd : mg "gcd" = some (.builtin "math.gcd")

/-- ** of ints of any size, the power's bits bounded -/
def CPowW (i j : Int) : Prop := 0 ≤ j ∧ j ≤ 1000 ∧ i.natAbs.log2 < 10000
theorem op_powW {X : Cx} : OpR X (binaryOp .Pow) (rI CPowW fun i j => .int (i ^ j.toNat)) := opI fun i j _ _ _ _ _ hc q => by
  obtain ⟨h0, h1, h2⟩ := hc
  have b : Builtin.Int.intBits i ≤ i.natAbs.log2 + 1 := by
    unfold Builtin.Int.intBits
    split <;> omega
  have b2 : (Builtin.Int.intBits i : Int) ≤ 10000 := by omega
  have b3 : (Builtin.Int.intBits i : Int) * j ≤ 10000 * 1000 := by
    calc (Builtin.Int.intBits i : Int) * j ≤ 10000 * j := Int.mul_le_mul_of_nonneg_right b2 h0
      _ ≤ 10000 * 1000 := Int.mul_le_mul_of_nonneg_left h1 (by decide)
  have b4 : (10000 * 1000 : Int) ≤ 2 ^ 27 := by decide
  exact pow_int h0 (Int.le_trans b3 b4) q

section
variable {P : Program} {w : World} {K : PySem.W.Frag} {mg : Str → Option Value} {base : Heap} {x qual : Str} {params : Arguments} {body : List Stmt} {scope : Scope} {dvs : List V} {kws : List (Str × V)} {f : Addr} {fd : FuncData} {N ps : List Str} {k : Nat} {sp : Sp}
/-- a def that lets nothing out -/
theorem okD (F : FunD K x qual params body scope dvs kws f fd) (S : FnScope N ps scope) (len : ∀ vs H Q E, sp vs H Q E → vs.length = ps.length)
    (hbody : ∀ (cdv : Value) (A : Around) (outer : List Env) (s : Shared) (H : Hp) (vs : List V) (Q : VK) (E : XK), Room k (A.deeper (envOfC qual scope s.heap.objs.size f cdv)) → sp vs H Q E →
      ∃ t, PSs (cxOf CX0 P w K mg base N qual scope f cdv A outer s H E).nox body t ∧ t { nx := fun _ H' => Q .non H', rt := Q } (start N vs) H) : FnOk P w K mg base CX0 (k + 1) f fd ps sp :=
  F.ok S len fun cdv A outer s H vs Q E hr h => by
    obtain ⟨t, h1, h2⟩ := hbody cdv A outer s H vs Q E hr h
    exact ⟨t, h1.nox, h2⟩
theorem okG (F : FunD K x qual params body scope dvs kws f fd) (S : FnScope N ps scope) (len : ∀ vs H Q E, sp vs H Q E → vs.length = ps.length)
    (hbody : ∀ (cdv : Value) (A : Around) (outer : List Env) (s : Shared) (H : Hp) (vs : List V) (Q : VK), (A.deeper (envOfC qual scope s.heap.objs.size f cdv)).guards = some [] → Room k (A.deeper (envOfC qual scope s.heap.objs.size f cdv)) → sp vs H Q E0 →
      ∃ t, PSs (cxOf CX0 P w K mg base N qual scope f cdv A outer s H E0).nox body t ∧ t { nx := fun _ H' => Q .non H', rt := Q } (start N vs) H) : FnG P w K mg base (k + 1) f fd ps sp :=
  fnG_of F S len fun cdv A outer s H vs Q hg hr h => by
    obtain ⟨t, h1, h2⟩ := hbody cdv A outer s H vs Q ((deeper_guards _ _).trans hg) hr h
    exact ⟨t, h1.nox, h2⟩
end
end K0

namespace K0
open PySem PySem.Spec PyProof.Rows L2

/-- the pail: what is left, how often it was filled anew (n at most), what it was at first -/
def Pail (x y z : Int) (n : Nat) : Prop := 0 ≤ x ∧ x < 2 ^ 1400 ∧ 0 ≤ y ∧ y ≤ n ∧ n ≤ 1000 ∧ 0 ≤ z ∧ z < 2 ^ 1000
def spDip : Sp := fun vs H Q _ => ∃ (p : Addr) (x y z m : Int) (n : Nat), vs = [.ref p, .int m] ∧ H p = some (.lst [.int x, .int y, .int z]) ∧ Pail x y z n ∧ n < 1000 ∧ 0 < m ∧ m < 2 ^ 300 ∧
  ∀ (x' y' r : Int), 0 ≤ r → r < m → Pail x' y' z (n + 1) → Q (.int r) (upd H p (.lst [.int x', .int y', .int z]))

theorem fill_lt {y z : Int} (h0 : 0 ≤ y) (h1 : y ≤ 1001) (h2 : 0 ≤ z) : 0 ≤ (977 * y + 3511 + z % 10 ^ 30) ∧ (977 * y + 3511 + z % 10 ^ 30) < 2 ^ 100 := by
  have a : z % 10 ^ 30 < 10 ^ 30 := Int.emod_lt_of_pos _ (by decide)
  have b : 0 ≤ z % 10 ^ 30 := Int.emod_nonneg _ (by decide)
  have c : (10 ^ 30 : Int) + 1000000 < 2 ^ 100 := by decide
  constructor <;> omega
theorem powLe {a b : Int} (h0 : 0 ≤ a) (h : a ≤ b) : ∀ n : Nat, a ^ n ≤ b ^ n
  | 0 => by simp
  | n + 1 => by
    rw [Int.pow_succ, Int.pow_succ]
    exact Int.mul_le_mul (powLe h0 h n) h h0 (Int.pow_nonneg (Int.le_trans h0 h))
theorem fill13 {b : Int} (h0 : 0 ≤ b) (h1 : b < 2 ^ 100) : 0 ≤ b ^ 13 / 7 ∧ b ^ 13 / 7 < 2 ^ 1400 := by
  have a : 0 ≤ b ^ 13 := Int.pow_nonneg h0
  have c : b ^ 13 ≤ (2 ^ 100) ^ 13 := powLe h0 (Int.le_of_lt h1) 13
  have d : ((2 : Int) ^ 100) ^ 13 < 2 ^ 1400 := by decide +kernel
  constructor
  · exact Int.ediv_nonneg a (by decide)
  · have e : b ^ 13 / 7 ≤ b ^ 13 := Int.ediv_le_self _ a
    omega

section
variable {P : Program} {w : World} {K : PySem.W.Frag} {mg : Str → Option Value} {base : Heap} {f : Addr} {fd : FuncData}
theorem scDip : FnScope ["_law_pail_here", "_law_many", "_law_rest"] ["_law_pail_here", "_law_many"] (defScope sDip) := ⟨rfl, rfl, rfl, by decide +kernel, rfl, by decide +kernel, by decide +kernel⟩
theorem ok_dip (F : DefAt K "_law_dip" "_law_dip" sDip f fd) : FnOk P w K mg base CX0 1 f fd ["_law_pail_here", "_law_many"] spDip := by
  refine okD F scDip (fun vs H Q E h => ?_) (fun cdv A outer s H vs Q E hr h => ?_)
  · obtain ⟨p, x, y, z, m, n, rfl, _⟩ := h
    rfl
  · obtain ⟨p, x, y, z, m, n, rfl, hp, hP, hn, m0, m1, k⟩ := h
    obtain ⟨x0, x1, y0, y1, n0, z0, z1⟩ := hP
    refine ⟨_, pss_cons (ps_if (pt_cmpR op_eq (pe_ix ix_list (pv 0) pe_int (fun _ _ => rfl)) pe_int (nomark _))
        (pss_cons (ps_asg (pe_op op_add (pe_ix ix_list (pv 0) pe_int (fun _ _ => rfl)) pe_int) (pg_sub (pv 0) pe_int set_list))
        (pss_one (ps_asg (pe_op op_fdiv (pe_op op_powW (pe_op op_add (pe_op op_add (pe_op op_mul pe_int (pe_ix ix_list (pv 0) pe_int (fun _ _ => rfl))) pe_int)
          (pe_op op_mod (pe_ix ix_list (pv 0) pe_int (fun _ _ => rfl)) (pe_op op_pow pe_int pe_int))) pe_int) pe_int) (pg_sub (pv 0) pe_int set_list)))) pss_nil)
      (pss_cons (ps_set (i := 2) scDip.nd rfl (Or.inl rfl) (pe_ix ix_list (pv 0) pe_int (fun _ _ => rfl)))
      (pss_cons (ps_asg (pe_op op_fdivW (pv 2) (pv 1)) (pg_sub (pv 0) pe_int set_list))
      (pss_one (ps_ret (pe_op op_mod (pv 2) (pv 1)))))), ?_⟩
    have at0 : ∀ {a b c : Int}, atI [V.int a, V.int b, V.int c] 0 = some (V.int a) := atI_nat (j := 0) rfl
    have at1 : ∀ {a b c : Int}, atI [V.int a, V.int b, V.int c] 1 = some (V.int b) := atI_nat (j := 1) rfl
    have at2 : ∀ {a b c : Int}, atI [V.int a, V.int b, V.int c] 2 = some (V.int c) := atI_nat (j := 2) rfl
    -- the end, from whatever stands in the pail
    have fin : ∀ (H1 : Hp) (a b : Int), H1 p = some (.lst [.int a, .int b, .int z]) → (∀ o, upd H1 p o = upd H p o) → 0 ≤ a → a < 2 ^ 1400 → 0 ≤ b → b ≤ n + 1 →
        ∃ v, [some (V.ref p), some (V.int m), none][0]? = some (some v) ∧ ∃ p' xs i v', v = .ref p' ∧ V.int 0 = .int i ∧ SqL K H1 p' xs ∧ atI xs i = some v' ∧
          tSeq (tAsg (tOp (rI CDivW fun i j => .int (i / j)) (tVar 2) (tVar 1)) (gSub (tVar 0) (tC (.int 0)) rSetL)) (tRet (tOp (rI (fun _ j => 0 < j) fun i j => .int (i % j)) (tVar 2) (tVar 1)))
            { nx := fun _ H' => Q .non H', rt := Q } ([some (V.ref p), some (V.int m), none].set 2 (some v')) H1 := by
      intro H1 a b h1 hu a0 a1 b0 b1
      refine ⟨_, rfl, p, _, _, _, rfl, rfl, SqL.of h1, at0, ?_⟩
      have dv : CDivW a m := wide_div (b := 300) m0 (by omega) (by decide) (by decide)
      refine ⟨_, rfl, _, rfl, _, _, rfl, rfl, dv, ?_⟩
      refine ⟨_, rfl, p, _, _, 0, rfl, rfl, h1, rfl, ?_⟩
      refine ⟨_, rfl, _, rfl, _, _, rfl, rfl, m0, ?_⟩
      have e : upd H1 p (.lst ([V.int a, .int b, .int z].set 0 (.int (a / m)))) = upd H p (.lst [.int (a / m), .int b, .int z]) := hu _
      rw [e]
      have q0 : 0 ≤ a / m := Int.ediv_nonneg a0 (Int.le_of_lt m0)
      have q1 : a / m ≤ a := Int.ediv_le_self _ a0
      exact k (a / m) b (a % m) (Int.emod_nonneg _ (by omega)) (Int.emod_lt_of_pos _ m0) ⟨q0, by omega, b0, by omega, by omega, z0, z1⟩
    refine ⟨_, rfl, p, _, _, _, rfl, rfl, SqL.of hp, at0, rfl, _, rfl, ?_⟩
    by_cases hx : V.int x = V.int 0
    · rw [decide_eq_true hx]
      refine iteT ?_
      refine ⟨_, rfl, p, _, _, _, rfl, rfl, SqL.of hp, at1, _, _, rfl, rfl, _, rfl, p, _, _, 1, rfl, rfl, hp, rfl, ?_⟩
      have g1 : upd H p (.lst ([V.int x, .int y, .int z].set 1 (.int (y + 1)))) p = some (.lst [.int x, .int (y + 1), .int z]) := upd_same
      obtain ⟨f0, f1⟩ := fill_lt (y := y + 1) (z := z) (by omega) (by omega) z0
      refine ⟨_, rfl, p, _, _, _, rfl, rfl, SqL.of g1, at1, _, _, rfl, rfl, .inl ⟨by decide, by decide⟩, _, _, rfl, rfl, ?_⟩
      refine ⟨_, rfl, p, _, _, _, rfl, rfl, SqL.of g1, at2, _, _, rfl, rfl, ⟨by decide, by decide, by decide⟩, _, _, rfl, rfl, (by show (0 : Int) < 10 ^ (Int.toNat 30); decide), _, _, rfl, rfl, ?_⟩
      have pw : CPowW (977 * (y + 1) + 3511 + z % 10 ^ 30) 13 := ⟨by decide, by decide, Nat.lt_of_lt_of_le (PySem.Flt.log2_lt_of (show 0 < 100 by decide) (show _ < 2 ^ 100 by omega)) (by decide)⟩
      refine ⟨_, _, rfl, rfl, pw, _, _, rfl, rfl, ⟨by decide, by decide⟩, ?_⟩
      refine ⟨_, rfl, p, _, _, 0, rfl, rfl, g1, rfl, ?_⟩
      obtain ⟨e0, e1⟩ := fill13 f0 f1
      exact fin _ ((977 * (y + 1) + 3511 + z % 10 ^ 30) ^ 13 / 7) (y + 1) upd_same (fun o => by rw [upd_upd, upd_upd]) e0 e1 (by omega) (by omega)
    · rw [decide_eq_false hx]
      refine iteF ?_
      exact fin H x y hp (fun o => rfl) x0 x1 y0 (by omega)
end
end K0

namespace K0
open PySem PySem.Spec PyProof.Rows L2

def spPail (K : PySem.W.Frag) : Sp := fun vs H Q _ => ∃ (a : Addr) (ns : List Int), vs = [.ref a] ∧ SqL K H a (ns.map V.int) ∧ ns.length ≤ 63 ∧
  ∀ (p : Addr) (H' : Hp) (z : Int), Same H H' → H p = none → H' p = some (.lst [.int z, .int 0, .int z]) → Pail z 0 z 0 → Q (.ref p) H'
theorem cut_mem {xs : List V} {lo hi : Option Int} {i : Nat} {x : V} (h : (cutV xs lo hi)[i]? = some x) : x ∈ xs :=
  List.mem_of_mem_drop (List.mem_of_mem_take (List.mem_of_getElem? h))
theorem cut_len {xs : List V} {lo hi : Option Int} : (cutV xs lo hi).length ≤ xs.length := by
  unfold cutV
  rw [List.length_take, List.length_drop]
  omega
/-- how great the sum is behind i cells -/
def lim (i : Nat) : Int := 1202 ^ i * 10 ^ 42
theorem lim_step {i : Nat} {z a b : Int} (h0 : 0 ≤ z) (h : z ≤ lim i) (a0 : 0 ≤ a) (a1 : a < 10 ^ 40) (b0 : 0 ≤ b) (b1 : b ≤ 1) : 0 ≤ z * 1201 + a + 10 ^ 41 * b ∧ z * 1201 + a + 10 ^ 41 * b ≤ lim (i + 1) := by
  have p : (1 : Int) ≤ 1202 ^ i := by
    have := powLe (a := 1) (b := 1202) (by decide) (by decide) i
    rwa [Int.one_pow] at this
  have q : (10 ^ 42 : Int) ≤ lim i := by
    unfold lim
    have := Int.mul_le_mul_of_nonneg_right p (show (0 : Int) ≤ 10 ^ 42 by decide)
    omega
  have r : lim (i + 1) = 1202 * lim i := by
    unfold lim
    rw [Int.pow_succ, Int.mul_comm (1202 ^ i) 1202, Int.mul_assoc]
  have c : (10 ^ 41 : Int) * b ≤ 10 ^ 41 * 1 := Int.mul_le_mul_of_nonneg_left b1 (by decide)
  have d : (0 : Int) ≤ 10 ^ 41 * b := Int.mul_nonneg (by decide) b0
  rw [r]
  constructor <;> omega
theorem lim_all {i : Nat} (h : i ≤ 63) : lim i < 2 ^ 1000 := by
  have a : (1202 : Int) ^ i ≤ 1202 ^ 63 := by
    have e : (1202 : Int) ^ 63 = 1202 ^ i * 1202 ^ (63 - i) := by
      rw [← Int.pow_add]
      congr 1
      omega
    have p : (1 : Int) ≤ 1202 ^ (63 - i) := by
      have := powLe (a := 1) (b := 1202) (by decide) (by decide) (63 - i)
      rwa [Int.one_pow] at this
    rw [e]
    have n : (0 : Int) ≤ 1202 ^ i := Int.pow_nonneg (by decide)
    have := Int.mul_le_mul_of_nonneg_left p n
    omega
  have b : (1202 : Int) ^ 63 * 10 ^ 42 < 2 ^ 1000 := by decide +kernel
  have c := Int.mul_le_mul_of_nonneg_right a (show (0 : Int) ≤ 10 ^ 42 by decide)
  unfold lim
  omega

section
variable {P : Program} {w : World} {K : PySem.W.Frag} {mg : Str → Option Value} {base : Heap} {f : Addr} {fd : FuncData}
theorem scPail : FnScope ["_law_script", "_law_whole", "_law_cell"] ["_law_script"] (defScope sPail) := ⟨rfl, rfl, rfl, by decide +kernel, rfl, by decide +kernel, by decide +kernel⟩
theorem ok_pail (G : Glob mg) (F : DefAt K "_law_pail" "_law_pail" sPail f fd) : FnOk P w K mg base CX0 1 f fd ["_law_script"] (spPail K) := by
  refine okD F scPail (fun vs H Q E h => ?_) (fun cdv A outer s H vs Q E hr h => ?_)
  · obtain ⟨a, ns, rfl, _⟩ := h
    rfl
  · obtain ⟨a, ns, rfl, hS, hl, k⟩ := h
    refine ⟨_, pss_cons (ps_set (i := 1) scPail.nd rfl (Or.inl rfl) pe_int)
      (pss_cons (ps_for PassesOwn.never rfl (pi_list (pe_slice sl_list (pv 0) po_none (po_some pe_int))) (pg_name (i := 2) scPail.nd rfl (Or.inl rfl))
        (pss_one (ps_set (i := 1) scPail.nd rfl (Or.inl rfl)
          (pe_op op_add (pe_op op_add (pe_op op_mul (pv 1) pe_int)
            (pe_op op_mod (pe_callB call_abs (by rfl) G.abs (by decide +kernel) (pa_cons (pe_callTy call_int1 (by rfl) G.int (by decide +kernel) (pa_cons (pv 2) pa_nil)) pa_nil)) (pe_op op_pow pe_int pe_int)))
            (pe_op op_mul (pe_op op_pow pe_int pe_int) (pe_callTy call_int1 (by rfl) G.int (by decide +kernel) (pa_cons (pe_cmpR op_lt (pv 2) pe_int (nomark _)) pa_nil)))))))
      (pss_one (ps_ret (pe_lst (pa_cons (pv 1) (pa_cons pe_int (pa_cons (pv 1) pa_nil))))))), ?_⟩
    refine ⟨_, rfl, ?_⟩
    refine ⟨40, rfl, a, _, rfl, hS, fun p0 np0 => ?_⟩
    have s0 : Same H (upd H p0 (.lst (cutV (ns.map V.int) none (some 40)))) := fun b o e => by rw [upd_ne (ne_of_none e np0)]; exact e
    have lc : (cutV (ns.map V.int) none (some 40)).length ≤ 63 := by
      refine Nat.le_trans cut_len ?_
      rw [List.length_map]
      exact hl
    refine ⟨p0, rfl, ⟨_, SqL.of upd_same⟩, for_list (K := K) (a := p0) (xs := cutV (ns.map V.int) none (some 40))
      (fun i σ H2 => ∃ (z : Int) (v : Option V), σ = [some (.ref a), some (.int z), v] ∧ H2 = upd H p0 (.lst (cutV (ns.map V.int) none (some 40))) ∧ 0 ≤ z ∧ z ≤ lim i)
      ⟨53, none, rfl, rfl, by decide, by decide +kernel⟩ (fun i σ H2 _ ⟨z, v, _, e, _⟩ => by rw [e]; exact SqL.of upd_same) ?_ ?_⟩
    · rintro i y σ H2 hi ⟨z, v, rfl, rfl, z0, z1⟩
      obtain ⟨n, _, rfl⟩ := List.mem_map.mp (cut_mem hi)
      refine ⟨_, rfl, _, _, rfl, rfl, .inr ⟨by decide, by decide⟩, ?_⟩
      refine ⟨_, rfl, .inl ⟨_, rfl, _, rfl, ?_⟩⟩
      refine ⟨_, _, rfl, rfl, ⟨by decide, by decide, by decide⟩, _, _, rfl, rfl, (by show (0 : Int) < 10 ^ (Int.toNat 40); decide), _, _, rfl, rfl, ?_⟩
      refine ⟨_, _, rfl, rfl, ⟨by decide, by decide, by decide⟩, _, rfl, _, _, rfl, rfl, .inr ⟨_, rfl, ?_⟩⟩
      refine ⟨_, _, rfl, rfl, .inr ?_, _, _, rfl, rfl, ?_⟩
      · by_cases hn : n < 0
        · rw [decide_eq_true hn]; exact ⟨by decide, by decide⟩
        · rw [decide_eq_false hn]; exact ⟨by decide, by decide⟩
      · refine ⟨_, _, rfl, rfl, ?_⟩
        have b01 : (0 : Int) ≤ (if decide (n < 0) = true then 1 else 0) ∧ (if decide (n < 0) = true then (1 : Int) else 0) ≤ 1 := by
          by_cases hn : n < 0
          · rw [decide_eq_true hn]; exact ⟨by decide, by decide⟩
          · rw [decide_eq_false hn]; exact ⟨by decide, by decide⟩
        exact lim_step z0 z1 (Int.emod_nonneg _ (by decide)) (Int.emod_lt_of_pos _ (by decide)) b01.1 b01.2
    · rintro σ H2 ⟨z, v, rfl, rfl, z0, z1⟩
      refine ⟨_, rfl, _, rfl, (by show 3 ≤ sizeLine; decide), fun p hp => ?_⟩
      have hl2 := lim_all lc
      refine k p _ z (fun b o e => by rw [upd_ne (ne_of_none (s0 _ _ e) hp)]; exact s0 _ _ e) (s0.free hp) upd_same ⟨z0, by omega, by decide, by decide, by decide, z0, by omega⟩
end
end K0

namespace K0
open PySem PySem.Spec PyProof.Rows L2

/-! ### is_integer of an int -/
def spIsInt : Sp := fun vs H Q _ => ∃ n : Int, vs = [.int n] ∧ Q (.bl true) H
section
variable {P : Program} {w : World} {K : PySem.W.Frag} {mg : Str → Option Value} {base : Heap} {f : Addr} {fd : FuncData}
theorem scIsInt : FnScope ["value"] ["value"] (defScope sIsInt) := ⟨rfl, rfl, rfl, by decide +kernel, rfl, by decide +kernel, by decide +kernel⟩
theorem ok_isInt (G : Glob mg) (F : DefAt K "is_integer" "is_integer" sIsInt f fd) : FnOk P w K mg base CX0 1 f fd ["value"] spIsInt := by
  refine okD F scIsInt (fun vs H Q E h => ?_) (fun cdv A outer s H vs Q E hr h => ?_)
  · obtain ⟨n, rfl, _⟩ := h
    rfl
  · obtain ⟨n, rfl, k⟩ := h
    refine ⟨_, pss_one (ps_ret (pe_and (pe_callB call_isi (by rfl) G.isi (by decide +kernel) (pa_cons (pv 0) (pa_cons (pe_bltn (by rfl) G.int (by decide +kernel) (v := .ty "int") rfl) pa_nil)))
      (pe_one (pe_not (pe_callB call_isi (by rfl) G.isi (by decide +kernel) (pa_cons (pv 0) (pa_cons (pe_bltn (by rfl) G.bool (by decide +kernel) (v := .ty "bool") rfl) pa_nil))))))), ?_⟩
    refine ⟨_, rfl, _, _, _, _, _, rfl, .ty "int", .base (.int n), kit_ty (a := "int") (b := "int") (r := true) (by decide +kernel), true, rfl, ?_⟩
    refine iteT ?_
    exact ⟨_, rfl, _, _, _, _, _, rfl, .ty "bool", .base (.int n), kit_ty (a := "int") (b := "bool") (r := false) (by decide +kernel), false, rfl, k⟩
end

/-! ### a Ratio -/
theorem tb_ne : ¬ (("top" : Str) = "bottom") := by decide +kernel
/-- its attributes, as __init__ stores them -/
def rfl_ (t b : Int) : List (Str × V) := putF "bottom" (.int b) (putF "top" (.int t) [])
theorem rf_top (t b : Int) : (rfl_ t b).lookup ("top" : Str) = some (.int t) := by
  unfold rfl_
  rw [lookup_putF, if_neg tb_ne, lookup_putF, if_pos rfl]
theorem rf_bottom (t b : Int) : (rfl_ t b).lookup ("bottom" : Str) = some (.int b) := by
  unfold rfl_
  rw [lookup_putF, if_pos rfl]
def Small (n : Int) : Prop := n.natAbs < 2 ^ 300
def RatAt (C : Addr) (H : Hp) (a : Addr) (t b : Int) : Prop := (∃ dx, H a = some (.ins C dx (rfl_ t b))) ∧ Small t ∧ Small b
theorem RatAt.same {C : Addr} {H H' : Hp} {a : Addr} {t b : Int} (s : Same H H') (h : RatAt C H a t b) : RatAt C H' a t b := by
  obtain ⟨⟨dx, h⟩, z⟩ := h
  exact ⟨⟨dx, s _ _ h⟩, z⟩
def spRI (C : Addr) : Sp := fun vs H Q _ => ∃ (p dx : Addr) (t b : Int), vs = [.ref p, .int t, .int b] ∧ 0 < b ∧ Small t ∧ Small b ∧ H p = some (.ins C dx []) ∧
  ∀ (H' : Hp) (t' b' : Int), RatAt C H' p t' b' → (∀ q o, H q = some o → q ≠ p → H' q = some o) → Q .non H'
theorem small_log {n : Int} (h : Small n) : n.natAbs.log2 < 1920 := Nat.lt_of_lt_of_le (PySem.Flt.log2_lt_of (show 0 < 300 by decide) h) (by decide)
theorem small_div {n g : Int} (h : Small n) (hg : 0 < g) : Small (n / g) := by
  have h' : n.natAbs < 2 ^ 300 := h
  show (n / g).natAbs < 2 ^ 300
  have e : (n / g).natAbs ≤ n.natAbs := by
    by_cases hn : 0 ≤ n
    · have a := Int.ediv_nonneg hn (Int.le_of_lt hg)
      have b := Int.ediv_le_self g hn
      omega
    · have a : n / g < 0 := Int.ediv_neg_of_neg_of_pos (by omega) hg
      have b : n ≤ n / g := (Int.le_ediv_iff_mul_le hg).mpr (by
        have e : n * g ≤ n * 1 := Int.mul_le_mul_of_nonpos_left (by omega) (by omega)
        omega)
      omega
  omega
/-- the text of a ratio -/
def ratText (t b : Int) : Str := if b = 1 then Str.ofString (toString t) else ((Str.empty ++ Str.ofString (toString t)) ++ Str.ofString "/") ++ Str.ofString (toString b)
theorem ratText_len {t b : Int} (h1 : Small t) (h2 : Small b) : (Str.empty ++ Str.ofString (toString t)).length ≤ 1921 ∧ ((Str.empty ++ Str.ofString (toString t)) ++ Str.ofString "/").length ≤ 1922 ∧ (ratText t b).length ≤ 4000 := by
  have a := PyProof.Rows.int_text_len_1921 (small_log h1)
  have c := PyProof.Rows.int_text_len_1921 (small_log h2)
  have e : Str.empty.length = 0 := rfl
  have e1 : (Str.ofString "/").length = 1 := by decide +kernel
  refine ⟨?_, ?_, ?_⟩
  · rw [strLen_append, e]; omega
  · rw [strLen_append, strLen_append, e, e1]; omega
  · unfold ratText
    split
    · omega
    · rw [strLen_append, strLen_append, strLen_append, e, e1]; omega
/-- what str and repr of a Ratio promise -/
abbrev RatP (C : Addr) : Hp → Addr → Str → Prop := fun H a x => ∃ t b, RatAt C H a t b ∧ x = ratText t b
structure RTxt (K : PySem.W.Frag) (C : Addr) : Prop where
  cl : Cls K C
  nT : NoAttr K C "top"
  nB : NoAttr K C "bottom"
section
variable {P : Program} {w : World} {K : PySem.W.Frag} {mg : Str → Option Value} {base : Heap} {f fI C : Addr} {fd fdI : FuncData} {dv : List V}
theorem scRI : FnScope ["self", "top", "bottom", "shared"] ["self", "top", "bottom"] (defScope sRInit) := ⟨rfl, rfl, rfl, by decide +kernel, rfl, by decide +kernel, by decide +kernel⟩
theorem ok_rinit (G : Glob mg) (T : RTxt K C) (F : FunD K "__init__" "Ratio.__init__" (defArgs sRInit) (defBody sRInit) (defScope sRInit) dv [] f fd) (FI : DefAt K "is_integer" "is_integer" sIsInt fI fdI) (mI : mg "is_integer" = some (.ref fI)) :
    FnOk P w K mg base CX0 2 f fd ["self", "top", "bottom"] (spRI C) := by
  have GI : FnOk P w K mg base CX0 1 fI fdI ["value"] spIsInt := ok_isInt G FI
  have bI : Binds K fdI ["value"] [] := FI.bindsN fun _ _ _ _ _ _ us hl => match us, hl with | [_], _ => rfl
  refine okD F scRI (fun vs H Q E h => ?_) (fun cdv A outer s H vs Q E hr h => ?_)
  · obtain ⟨p, dx, t, b, rfl, _⟩ := h
    rfl
  · obtain ⟨p, dx, t, b, rfl, b0, st, sb, hp, k⟩ := h
    refine ⟨_, pss_cons (ps_if (pt_not (pt_val (pe_call GI hr rfl mI FI.kp bI .nil pass0 (pa_cons (pv 1) pa_nil)))) pss_never pss_nil)
      (pss_cons (ps_if (PW.pt (pw_or (pt_not (pt_val (pe_call GI hr rfl mI FI.kp bI .nil pass0 (pa_cons (pv 2) pa_nil)))) (pw_or1 (pt_cmpR op_eq (pv 2) pe_int (nomark _))))) pss_never pss_nil)
      (pss_cons (ps_set (i := 3) scRI.nd rfl (Or.inl rfl) (pe_ifExp (pt_cmpR op_gt (pv 2) pe_int (nomark _)) (pe_callBfun cr_gcd (by rfl) G.gcd (pa_cons (pv 1) (pa_cons (pv 2) pa_nil)))
        (pe_un un_neg (pe_callBfun cr_gcd (by rfl) G.gcd (pa_cons (pv 1) (pa_cons (pv 2) pa_nil))))))
      (pss_cons (ps_fld (pv 0) (pe_op op_fdivW (pv 1) (pv 3)) rfl)
      (pss_one (ps_fld (pv 0) (pe_op op_fdivW (pv 2) (pv 3)) rfl))))), ?_⟩
    refine ⟨_, rfl, t, rfl, true, rfl, iteF ?_⟩
    refine ⟨_, rfl, b, rfl, true, rfl, iteF ?_⟩
    refine ⟨_, rfl, rfl, false, ?_, iteF ?_⟩
    · rw [decide_eq_false (show ¬ V.int b = V.int 0 from fun e => by cases e; omega)]
    have g0 : 0 < ((Nat.gcd t.natAbs b.natAbs : Nat) : Int) := by
      have := Nat.gcd_pos_of_pos_right t.natAbs (show 0 < b.natAbs by omega)
      omega
    have g1 : (Nat.gcd t.natAbs b.natAbs) ≤ b.natAbs := Nat.gcd_le_right _ (by omega)
    have sg : Small ((Nat.gcd t.natAbs b.natAbs : Nat) : Int) := by
      have h' : b.natAbs < 2 ^ 300 := sb
      show (((Nat.gcd t.natAbs b.natAbs : Nat) : Int)).natAbs < 2 ^ 300
      omega
    have dv : ∀ x, CDivW x ((Nat.gcd t.natAbs b.natAbs : Nat) : Int) := fun x => wide_div (b := 300) g0 sg (by decide) (by decide)
    refine ⟨_, rfl, _, _, rfl, rfl, true, ?_, iteT ?_⟩
    · show V.bl (decide (0 < b)) = V.bl true
      rw [decide_eq_true b0]
    refine ⟨_, rfl, _, rfl, t, b, rfl, ?_⟩
    refine ⟨_, rfl, _, rfl, _, _, rfl, rfl, dv _, _, rfl, p, C, dx, [], rfl, hp, T.cl, T.nT, (by show 0 < 1000; decide), ?_⟩
    refine ⟨_, rfl, _, rfl, _, _, rfl, rfl, dv _, _, rfl, p, C, dx, _, rfl, upd_same, T.cl, T.nB, (by show 1 < 1000; decide), ?_⟩
    refine k _ _ _ ⟨⟨dx, upd_same⟩, small_div st g0, small_div sb g0⟩ fun q o e hq => ?_
    rw [upd_ne hq, upd_ne hq]
    exact e
theorem scRS : FnScope ["self"] ["self"] (defScope sRStr) := ⟨rfl, rfl, rfl, by decide +kernel, rfl, by decide +kernel, by decide +kernel⟩
theorem ok_rstr (G : Glob mg) (T : RTxt K C) (F : DefAt K "__str__" "Ratio.__str__" sRStr f fd) : FnOk P w K mg base CX0 1 f fd ["self"] (spRepr C (RatP C)) := by
  refine okD F scRS (fun vs H Q E h => ?_) (fun cdv A outer s H vs Q E hr h => ?_)
  · obtain ⟨a, x, rfl, _⟩ := h
    rfl
  · obtain ⟨a, x, rfl, ⟨t, b, ⟨⟨dx, h1⟩, st, sb⟩, rfl⟩, k⟩ := h
    refine ⟨_, pss_cons (ps_if (pt_cmpR op_eq (pe_fld (pv 0) rfl) pe_int (nomark _)) (pss_one (ps_ret (pe_callTy call_str_int (by rfl) G.str (by decide +kernel) (pa_cons (pe_fld (pv 0) rfl) pa_nil)))) pss_nil)
      (pss_one (ps_ret (pe_joined (.cons (pe_fmt (pe_fld (pv 0) rfl)) (.cons pe_str (.cons (pe_fmt (pe_fld (pv 0) rfl)) .nil)))))), ?_⟩
    refine ⟨_, rfl, a, C, dx, _, _, rfl, h1, T.cl, T.nB, rf_bottom _ _, rfl, _, rfl, ?_⟩
    obtain ⟨l1, l2, l3⟩ := ratText_len st sb
    have big : (4000 : Nat) ≤ sizeLine := by decide +kernel
    by_cases hb : b = 1
    · rw [decide_eq_true (show V.int b = V.int 1 by rw [hb])]
      refine iteT ?_
      refine ⟨_, rfl, a, C, dx, _, _, rfl, h1, T.cl, T.nT, rf_top _ _, t, rfl, small_log st, ?_⟩
      have e : ratText t b = Str.ofString (toString t) := if_pos hb
      rw [← e]
      exact k H (Same.refl H)
    · rw [decide_eq_false (show ¬ V.int b = V.int 1 from fun e => hb (V.int.inj e))]
      refine iteF ?_
      refine ⟨_, rfl, a, C, dx, _, _, rfl, h1, T.cl, T.nT, rf_top _ _, .inr ⟨t, rfl, small_log st, ?_⟩⟩
      refine ⟨_, rfl, Nat.le_trans l1 (by omega), _, rfl, Nat.le_trans l2 (by omega), ?_⟩
      refine ⟨_, rfl, a, C, dx, _, _, rfl, h1, T.cl, T.nB, rf_bottom _ _, .inr ⟨b, rfl, small_log sb, ?_⟩⟩
      have e : ratText t b = ((Str.empty ++ Str.ofString (toString t)) ++ Str.ofString "/") ++ Str.ofString (toString b) := if_neg hb
      rw [e] at l3
      refine ⟨_, rfl, Nat.le_trans l3 big, ?_⟩
      have z := k H (Same.refl H)
      rw [e] at z
      exact z
end

/-! ### str(o) by an own __str__; __repr__ -/
def rStrO (X : Cx) (C : Addr) (P : Hp → Addr → Str → Prop) : List V → Hp → VK → Prop := fun xs H Q => ∃ (a dx : Addr) (fs : List (Str × V)) (t : Str), xs = [.ref a] ∧ H a = some (.ins C dx fs) ∧ P H a t ∧ ∀ H', Same H H' → Q (.str t) H'
theorem call_strO {X : Cx} {C f : Addr} {fd : FuncData} {k : Nat} {P : Hp → Addr → Str → Prop} (fn : FnOk X.prog X.w X.K X.mg X.base CX0 k f fd ["self"] (spRepr C P)) (bd : Binds X.K fd ["self"] [])
    (at_ : PySem.W.findIn X.K (.ref C) "__str__" = some (some (.ref f))) (isf : PySem.W.isFn X.K (.ref f) = true) (hr : Room (k + 2) X.A) : CallR X (.type "str") (rStrO X C P) := by
  intro pins s σ H xs us Q I r h
  obtain ⟨a, dx, fs, t, rfl, h1, p, q⟩ := h
  obtain ⟨u, rfl, ru⟩ := Vals.one r
  obtain rfl : u = Value.ref a := ru
  obtain ⟨ox, od, J⟩ := own_inst I h1
  have e0 := I.env0
  have hrr : Room k X.A.in1.in1 := hr.in1.in1
  refine PySem.W.kso_call (by have := hrr.un; omega) I.kIn J at_ isf ?_
  have b1 := bd s [.ref a] I.kIn rfl
  rw [List.append_nil] at b1
  refine wpAny_call (codeAny_mono (fn.run X.A.in1.in1 X.stack s H ⟨[.ref a], []⟩ [.ref a] [.ref a] (fun v H2 => v = .str t ∧ Same H H2) E0 hrr e0.in1.in1 b1 (.cons rfl .nil) ⟨a, t, rfl, p, fun H' hs' => ⟨rfl, hs'⟩⟩) fun r s' hq => ?_)
  cases r with
  | error e => exact False.elim hq
  | ok fl =>
    cases fl with
    | ret u =>
      obtain ⟨v, H2, I2, rv, ev, hs⟩ := I.after hq
      subst ev
      obtain ⟨tk, rfl⟩ := rv
      exact ⟨.str t, H2, I2, ⟨tk, rfl⟩, q H2 hs⟩
    | next => exact False.elim hq
    | brk => exact False.elim hq
    | cont => exact False.elim hq
section
variable {P : Program} {w : World} {K : PySem.W.Frag} {mg : Str → Option Value} {base : Heap} {f fS C : Addr} {fd fdS : FuncData}
theorem scRR : FnScope ["self"] ["self"] (defScope sRRepr) := ⟨rfl, rfl, rfl, by decide +kernel, rfl, by decide +kernel, by decide +kernel⟩
theorem ok_rrepr (G : Glob mg) (T : RTxt K C) (F : DefAt K "__repr__" "Ratio.__repr__" sRRepr f fd) (FS : DefAt K "__str__" "Ratio.__str__" sRStr fS fdS) (sS : PySem.W.findIn K (.ref C) "__str__" = some (some (.ref fS))) (isS : PySem.W.isFn K (.ref fS) = true) :
    FnOk P w K mg base CX0 4 f fd ["self"] (spRepr C (RatP C)) := by
  have GS : FnOk P w K mg base CX0 1 fS fdS ["self"] (spRepr C (RatP C)) := ok_rstr G T FS
  have bS : Binds K fdS ["self"] [] := FS.bindsN fun _ _ _ _ _ _ us hl => match us, hl with | [_], _ => rfl
  refine okD F scRR (fun vs H Q E h => ?_) (fun cdv A outer s H vs Q E hr h => ?_)
  · obtain ⟨a, x, rfl, _⟩ := h
    rfl
  · obtain ⟨a, x, rfl, p, k⟩ := h
    refine ⟨_, pss_one (ps_ret (pe_callTy (call_strO GS bS sS isS hr) (by rfl) G.str (by decide +kernel) (pa_cons (pv 0) pa_nil))), ?_⟩
    obtain ⟨t, b, ⟨⟨dx, h1⟩, st⟩, e⟩ := id p
    exact ⟨_, rfl, a, dx, _, x, rfl, h1, p, k⟩
end
end K0

namespace K0
open PySem PySem.Spec PyProof.Rows L2

/-- a class that can be made with fields -/
structure MkF (P : Program) (w : World) (K : PySem.W.Frag) (mg : Str → Option Value) (base : Heap) (e : Ent) : Prop where
  mgC : mg e.x = some (.ref (e.C K))
  o : OexC K (e.C K)
  fn : ∃ fI fd, PySem.W.findIn K (.ref (e.C K)) "__init__" = some (some (.ref fI)) ∧ PySem.W.typeIn K (.ref fI) = some (.type "function") ∧
    FunD K "__init__" e.q (defArgs e.st) (defBody e.st) (defScope e.st) [] [] fI fd ∧ FnOk P w K mg base CX0 1 fI fd ("self" :: e.fl) (spI (e.C K) e.fl)
/-- a class without fields -/
structure MkZ (K : PySem.W.Frag) (mg : Str → Option Value) (x : Str) : Prop where
  mgC : mg x = some (.ref (He.ga K x))
  exc : PySem.W.excIn K (He.ga K x) He.veBase "ValueError.__new__" = true
  kp : PySem.W.keepIn K (.ref (He.ga K x)) = true

/-! ### rows of new exceptions -/
def ExE (H : Hp) (a C : Addr) (fs : List (Str × V)) : Prop := (fs = [] ∧ H a = some (exo a C none)) ∨ Ex H a C fs
theorem ExE.same {H H' : Hp} {a C : Addr} {fs : List (Str × V)} (s : Same H H') (h : ExE H a C fs) : ExE H' a C fs := by
  rcases h with ⟨e, h⟩ | h
  · exact .inl ⟨e, s _ _ h⟩
  · exact .inr (h.same s)
theorem ExE.exA {H : Hp} {a C : Addr} {fs : List (Str × V)} (h : ExE H a C fs) : ExA H a C := by
  rcases h with ⟨e, h⟩ | h
  · exact .inr h
  · exact .inl ⟨fs, h⟩
theorem ExE.ex {H : Hp} {a C : Addr} {fs : List (Str × V)} (h : ExE H a C fs) (n : fs ≠ []) : Ex H a C fs := by
  rcases h with ⟨e, h⟩ | h
  · exact absurd e n
  · exact h
abbrev Row : Type := Addr × List (Str × V)
abbrev Rows (H : Hp) : List Addr → List Row → Prop := Paired fun a r => ExE H a r.1 r.2
theorem Rows.same {H H' : Hp} (s : Same H H') {as : List Addr} {rs : List Row} (h : Rows H as rs) : Rows H' as rs := Paired.mapP h fun a r z => z.same s
theorem Rows.append {H : Hp} : ∀ {as bs : List Addr} {rs ts : List Row}, Rows H as rs → Rows H bs ts → Rows H (as ++ bs) (rs ++ ts)
  | _, _, _, _, .nil, t => t
  | _, _, _, _, .cons h r, t => .cons h (Rows.append r t)
theorem Rows.len {H : Hp} {as : List Addr} {rs : List Row} (h : Rows H as rs) : as.length = rs.length := Paired.length h
theorem Rows.get {H : Hp} : ∀ {as : List Addr} {rs : List Row} {i : Nat} {r : Row}, Rows H as rs → rs[i]? = some r → ∃ a, as[i]? = some a ∧ ExE H a r.1 r.2
  | _, _, _, _, .nil, e => by simp at e
  | _, _, 0, _, .cons h _, e => by simp at e; subst e; exact ⟨_, rfl, h⟩
  | _, _, i + 1, r, .cons _ t, e => by
    obtain ⟨a, h1, h2⟩ := Rows.get (i := i) (r := r) t (by simpa using e)
    exact ⟨a, by simpa using h1, h2⟩

def Mk1 (σ : L2.St) (te : TE) (r : Row) : Prop := ∀ H Q, (∀ a H', H a = none → Same H H' → ExE H' a r.1 r.2 → Q (.ref a) H') → te σ H Q
def MkL (σ : L2.St) (ta : TA) (rs : List Row) : Prop := ∀ H Q, (∀ as H', Same H H' → Rows H' as rs → Q (as.map V.ref) H') → ta σ H Q
theorem MkL.nil {σ : L2.St} : MkL σ tNil [] := fun H Q k => k [] H (Same.refl H) .nil
theorem MkL.cons {σ : L2.St} {te : TE} {ta : TA} {r : Row} {rs : List Row} (h : Mk1 σ te r) (t : MkL σ ta rs) : MkL σ (tCons te ta) (r :: rs) := fun H Q k =>
  h H _ fun a H1 _ s1 e1 => t H1 _ fun as H2 s2 r2 => k (a :: as) H2 (s1.trans s2) (.cons (e1.same s2) r2)
/-- x = [..] -/
theorem list_step {σ : L2.St} {H : Hp} {D : Ends} {i : Nat} {ta : TA} {rs : List Row} (hm : MkL σ ta rs) (hz : rs.length ≤ 1000)
    (k : ∀ p as H', Same H H' → H' p = some (.lst (as.map V.ref)) → Rows H' as rs → D.nx (σ.set i (some (.ref p))) H') : tAsg (tLst ta) (gName i) D σ H :=
  hm H _ fun as H1 s1 r1 => ⟨by rw [List.length_map, r1.len, sizeLine_eq]; omega, fun p hp => by
    have s2 : Same H1 (upd H1 p (.lst (as.map V.ref))) := fun b o e => by rw [upd_ne (ne_of_none e hp)]; exact e
    exact k p as _ (s1.trans s2) upd_same (r1.same s2)⟩
/-- x = x + [..] -/
theorem cat_step {σ : L2.St} {H : Hp} {D : Ends} {i : Nat} {ta : TA} {rs ts : List Row} {p : Addr} {as : List Addr} (hσ : σ[i]? = some (some (.ref p))) (hp : H p = some (.lst (as.map V.ref))) (hr : Rows H as rs) (hm : MkL σ ta ts) (hz : rs.length + ts.length ≤ 1000)
    (k : ∀ p as H', Same H H' → H' p = some (.lst (as.map V.ref)) → Rows H' as (rs ++ ts) → D.nx (σ.set i (some (.ref p))) H') : tAsg (tOp rCat (tVar i) (tLst ta)) (gName i) D σ H := by
  refine ⟨_, hσ, hm H _ fun bs H1 s1 r1 => ⟨by rw [List.length_map, r1.len, sizeLine_eq]; omega, fun p1 hp1 => ?_⟩⟩
  have s2 : Same H1 (upd H1 p1 (.lst (bs.map V.ref))) := fun b o e => by rw [upd_ne (ne_of_none e hp1)]; exact e
  refine ⟨p, p1, _, _, rfl, rfl, s2 _ _ (s1 _ _ hp), upd_same, ?_, fun p2 hp2 => ?_⟩
  · rw [List.length_map, List.length_map, hr.len, r1.len, sizeLine_eq]; omega
  · have s3 : Same (upd H1 p1 (.lst (bs.map V.ref))) (upd (upd H1 p1 (.lst (bs.map V.ref))) p2 (.lst (as.map V.ref ++ bs.map V.ref))) := fun b o e => by rw [upd_ne (ne_of_none e hp2)]; exact e
    refine k p2 (as ++ bs) _ ((s1.trans s2).trans s3) (by rw [List.map_append]; exact upd_same) ?_
    exact ((hr.same s1).same s2).same s3 |>.append ((r1.same s2).same s3)

/-! ### the makings -/
section
variable {X : Cx} {e : Ent} {p pos : Pos} {a1 : Expr} {es : List Expr} {ta : TA}
theorem pe_mkP {x : Str} {fl : List Str} (M : MkF X.prog X.w X.K X.mg X.base e) (hx : e.x = x) (hf : e.fl = fl) (hr : Room 2 X.A) (hg : Gl X x) (ha : PA X (a1 :: es) ta)
    (hbd : ∀ (kV doc pm : Value) (an : Option Addr) (cdv ct : Value) (us : List Value), us.length = ("self" :: fl : List Str).length →
      bindArgs (PySem.W.fnOf "__init__" e.q (defArgs e.st) (defBody e.st) (defScope e.st) .none kV doc pm an cdv ct) ⟨us, []⟩ = pure (("self" :: fl : List Str).zip us))
    (hdb : (x == ("__debug__" : Str)) = false := by decide) (he : starEach (a1 :: es) X.env = (false, eval a1 X.env) :: starEach es X.env := by rfl) (hpl : (backTo pos (starEach es X.env)).any (·.1) = false := by rfl) :
    PE X (.Call (.Name x p) (a1 :: es) [] pos) (tMkX (e.C X.K) (spI (e.C X.K) e.fl) id e.fl.length ta) := by
  subst hx hf
  obtain ⟨fI, fd, h1, h2, F, G⟩ := M.fn
  exact pe_exP M.o h1 h2 G hr (F.bindsN hbd) rfl hg M.mgC ha hdb he hpl
theorem pe_mkK {x : Str} {fl ks : List Str} {g : {α : Type} → List α → List α} {kws : List Keyword} {tk : TA} (M : MkF X.prog X.w X.K X.mg X.base e) (hx : e.x = x) (hf : e.fl = fl) (hr : Room 2 X.A) (hg : Gl X x) (hkw : PK X kws tk)
    (hbd : ∀ (kV doc pm : Value) (an : Option Addr) (cdv ct self : Value) (ws : List Value), ws.length = ks.length →
      bindArgs (PySem.W.fnOf "__init__" e.q (defArgs e.st) (defBody e.st) (defScope e.st) .none kV doc pm an cdv ct) ⟨[self], ks.zip ws⟩ = pure (("self" :: fl : List Str).zip (self :: g ws)))
    (hrel : ∀ {zs : List V} {ws : List Value}, Vals zs ws → Vals (g zs) (g ws))
    (hall : (backToKw pos (keywordEach kws X.env)).all (·.1.isSome) = true := by rfl) (hks : (backToKw pos (keywordEach kws X.env)).filterMap (·.1) = ks := by rfl) (hdb : (x == ("__debug__" : Str)) = false := by decide)
    (hpl : ((backTo pos (starEach [] X.env)).any (·.1) || (backToKw pos (keywordEach kws X.env)).any (·.1.isNone)) = false := by rfl) :
    PE X (.Call (.Name x p) [] kws pos) (tMkX (e.C X.K) (spI (e.C X.K) e.fl) g ks.length tk) := by
  subst hx hf
  obtain ⟨fI, fd, h1, h2, F, G⟩ := M.fn
  refine pe_exK M.o h1 h2 G hr ⟨fun s self ws hK hl => ?_, hrel⟩ hg M.mgC hkw hall hks hdb hpl
  obtain ⟨oc, od, dV, kV, doc, pm, an, cdv, ct, osl, rfl, lk, hcd, hD, hK2⟩ := F.ex
  rcases hD with ⟨_, rfl⟩ | ⟨z, _⟩
  · exact .of_eq (hbd kV doc pm an cdv ct self ws hl)
  · exact absurd rfl z
theorem pe_mkZ {x : Str} (M : MkZ X.K X.mg x) (hg : Gl X x) (hdb : (x == ("__debug__" : Str)) = false := by decide) :
    PE X (.Call (.Name x p) [] [] pos) (fun σ H Q => ∀ a, H a = none → Q (.ref a) (upd H a (exo a (He.ga X.K x) none))) :=
  pe_ex0 F.excBase_ValueError M.exc M.mgC M.kp hg hdb
/-- arguments that give these values, whatever stands -/
def Args_ (σ : L2.St) (ta : TA) (vs : List V) : Prop := ∀ H Q, Q vs H → ta σ H Q
theorem Args_.nil {σ : L2.St} : Args_ σ tNil [] := fun H Q k => k
theorem Args_.cons {σ : L2.St} {i : Nat} {v : V} {ta : TA} {vs : List V} (h : σ[i]? = some (some v)) (t : Args_ σ ta vs) : Args_ σ (tCons (tVar i) ta) (v :: vs) := fun H Q k => ⟨v, h, t H _ k⟩
theorem mk1_of {σ : L2.St} {C : Addr} {fl : List Str} {gV : List V → List V} {n : Nat} {ta : TA} {vs : List V} (h : Args_ σ ta vs) (h1 : vs.length = n) (h2 : n ≤ 1000) (h3 : (gV vs).length = fl.length) : Mk1 σ (tMkX C (spI C fl) gV n ta) (C, (fl.zip (gV vs)).reverse) := fun H Q k =>
  h H _ ⟨h1, h2, fun a ha => ⟨a, gV vs, rfl, h3, upd_same, fun dx H' hd hn e1 e2 e3 => ⟨rfl, k a H' ha (fun b o hb => by
    have nb : b ≠ a := ne_of_none hb ha
    have nd : b ≠ dx := fun z => by
      rw [← z, upd_ne nb, hb] at hd
      cases hd
    rw [e3 b nb nd, upd_ne nb]
    exact hb) (.inr ⟨dx, e1, e2⟩)⟩⟩⟩
theorem mk1_zero {σ : L2.St} {C : Addr} : Mk1 σ (fun _ H Q => ∀ a, H a = none → Q (.ref a) (upd H a (exo a C none))) (C, []) := fun H Q k a ha =>
  k a _ ha (fun b o hb => by rw [upd_ne (ne_of_none hb ha)]; exact hb) (.inl ⟨rfl, upd_same⟩)
end
end K0

namespace K0
open PySem PySem.Spec PyProof.Rows L2

/-! The table of the error classes, in the law's order. -/
/-- what is made of the class: its fields the first of the three values -/
abbrev row (K : PySem.W.Frag) (v1 v2 v3 : V) (e : Ent) : Row := (e.C K, (e.fl.zip [v1, v2, v3]).reverse)
structure Mks (P : Program) (w : World) (K : PySem.W.Frag) (mg : Str → Option Value) (base : Heap) : Prop where
  f : ∀ (i : Nat) (e : Ent), tab[i]? = some e → e.fl ≠ [] → MkF P w K mg base e
  m : MkF P w K mg base eMissing
  alone : MkZ K mg "Alone"
  noDeed : MkZ K mg "NoDeed"
  last : MkZ K mg "LastError"
theorem vals_rev {zs : List V} {ws : List Value} (h : Vals zs ws) : Vals zs.reverse ws.reverse := by
  induction h with
  | nil => exact .nil
  | cons h _ ih =>
    rw [List.reverse_cons, List.reverse_cons]
    exact Vals.append ih (.cons h .nil)
theorem mk1_row {σ : L2.St} {C : Addr} {fl : List Str} {gV : List V → List V} {n : Nat} {ta : TA} {vs : List V} {r : Row} (hr : (C, (fl.zip (gV vs)).reverse) = r) (h : Args_ σ ta vs) (h1 : vs.length = n) (h2 : n ≤ 1000) (h3 : (gV vs).length = fl.length) :
    Mk1 σ (tMkX C (spI C fl) gV n ta) r := hr ▸ mk1_of h h1 h2 h3
abbrev BdP (e : Ent) : Prop := ∀ (kV doc pm : Value) (an : Option Addr) (cdv ct : Value) (us : List Value), us.length = ("self" :: e.fl : List Str).length →
      bindArgs (PySem.W.fnOf "__init__" e.q (defArgs e.st) (defBody e.st) (defScope e.st) .none kV doc pm an cdv ct) ⟨us, []⟩ = pure (("self" :: e.fl : List Str).zip us)
abbrev BdK (e : Ent) : Prop := ∀ (kV doc pm : Value) (an : Option Addr) (cdv ct self : Value) (ws : List Value), ws.length = e.fl.reverse.length →
      bindArgs (PySem.W.fnOf "__init__" e.q (defArgs e.st) (defBody e.st) (defScope e.st) .none kV doc pm an cdv ct) ⟨[self], e.fl.reverse.zip ws⟩ = pure (("self" :: e.fl : List Str).zip (self :: ws.reverse))
theorem bpBadRatio : BdP eBadRatio := fun _ _ _ _ _ _ us hl => match us, hl with | [_, _], _ => rfl
theorem bkBadRatio : BdK eBadRatio := fun _ _ _ _ _ _ _ ws hl => match ws, hl with | [_], _ => rfl
theorem bpBadHandOver : BdP eBadHandOver := fun _ _ _ _ _ _ us hl => match us, hl with | [_, _], _ => rfl
theorem bkBadHandOver : BdK eBadHandOver := fun _ _ _ _ _ _ _ ws hl => match ws, hl with | [_], _ => rfl
theorem bpBadSwap : BdP eBadSwap := fun _ _ _ _ _ _ us hl => match us, hl with | [_, _], _ => rfl
theorem bkBadSwap : BdK eBadSwap := fun _ _ _ _ _ _ _ ws hl => match ws, hl with | [_], _ => rfl
theorem bpBadBounds : BdP eBadBounds := fun _ _ _ _ _ _ us hl => match us, hl with | [_, _], _ => rfl
theorem bkBadBounds : BdK eBadBounds := fun _ _ _ _ _ _ _ ws hl => match ws, hl with | [_], _ => rfl
theorem bpBadLeanings : BdP eBadLeanings := fun _ _ _ _ _ _ us hl => match us, hl with | [_, _], _ => rfl
theorem bkBadLeanings : BdK eBadLeanings := fun _ _ _ _ _ _ _ ws hl => match ws, hl with | [_], _ => rfl
theorem bpBadDeal : BdP eBadDeal := fun _ _ _ _ _ _ us hl => match us, hl with | [_, _], _ => rfl
theorem bkBadDeal : BdK eBadDeal := fun _ _ _ _ _ _ _ ws hl => match ws, hl with | [_], _ => rfl
theorem bpBadRow : BdP eBadRow := fun _ _ _ _ _ _ us hl => match us, hl with | [_, _], _ => rfl
theorem bkBadRow : BdK eBadRow := fun _ _ _ _ _ _ _ ws hl => match ws, hl with | [_], _ => rfl
theorem bpBadDone : BdP eBadDone := fun _ _ _ _ _ _ us hl => match us, hl with | [_, _], _ => rfl
theorem bkBadDone : BdK eBadDone := fun _ _ _ _ _ _ _ ws hl => match ws, hl with | [_], _ => rfl
theorem bpBadCounts : BdP eBadCounts := fun _ _ _ _ _ _ us hl => match us, hl with | [_, _], _ => rfl
theorem bkBadCounts : BdK eBadCounts := fun _ _ _ _ _ _ _ ws hl => match ws, hl with | [_], _ => rfl
theorem bpBadDial : BdP eBadDial := fun _ _ _ _ _ _ us hl => match us, hl with | [_, _], _ => rfl
theorem bkBadDial : BdK eBadDial := fun _ _ _ _ _ _ _ ws hl => match ws, hl with | [_], _ => rfl
theorem bpBadWay : BdP eBadWay := fun _ _ _ _ _ _ us hl => match us, hl with | [_, _], _ => rfl
theorem bkBadWay : BdK eBadWay := fun _ _ _ _ _ _ _ ws hl => match ws, hl with | [_], _ => rfl
theorem bpBadKeeper : BdP eBadKeeper := fun _ _ _ _ _ _ us hl => match us, hl with | [_, _], _ => rfl
theorem bkBadKeeper : BdK eBadKeeper := fun _ _ _ _ _ _ _ ws hl => match ws, hl with | [_], _ => rfl
theorem bpBadKeepers : BdP eBadKeepers := fun _ _ _ _ _ _ us hl => match us, hl with | [_, _], _ => rfl
theorem bkBadKeepers : BdK eBadKeepers := fun _ _ _ _ _ _ _ ws hl => match ws, hl with | [_], _ => rfl
theorem bpBadLaid : BdP eBadLaid := fun _ _ _ _ _ _ us hl => match us, hl with | [_, _], _ => rfl
theorem bkBadLaid : BdK eBadLaid := fun _ _ _ _ _ _ _ ws hl => match ws, hl with | [_], _ => rfl
theorem bpBadChoice : BdP eBadChoice := fun _ _ _ _ _ _ us hl => match us, hl with | [_, _], _ => rfl
theorem bkBadChoice : BdK eBadChoice := fun _ _ _ _ _ _ _ ws hl => match ws, hl with | [_], _ => rfl
theorem bpBadBook : BdP eBadBook := fun _ _ _ _ _ _ us hl => match us, hl with | [_, _], _ => rfl
theorem bkBadBook : BdK eBadBook := fun _ _ _ _ _ _ _ ws hl => match ws, hl with | [_], _ => rfl
theorem bpBadStory : BdP eBadStory := fun _ _ _ _ _ _ us hl => match us, hl with | [_, _], _ => rfl
theorem bkBadStory : BdK eBadStory := fun _ _ _ _ _ _ _ ws hl => match ws, hl with | [_], _ => rfl
theorem bpBadShare : BdP eBadShare := fun _ _ _ _ _ _ us hl => match us, hl with | [_, _], _ => rfl
theorem bkBadShare : BdK eBadShare := fun _ _ _ _ _ _ _ ws hl => match ws, hl with | [_], _ => rfl
theorem bpBadPlay : BdP eBadPlay := fun _ _ _ _ _ _ us hl => match us, hl with | [_, _], _ => rfl
theorem bkBadPlay : BdK eBadPlay := fun _ _ _ _ _ _ _ ws hl => match ws, hl with | [_], _ => rfl
theorem bpBadNumber : BdP eBadNumber := fun _ _ _ _ _ _ us hl => match us, hl with | [_, _], _ => rfl
theorem bkBadNumber : BdK eBadNumber := fun _ _ _ _ _ _ _ ws hl => match ws, hl with | [_], _ => rfl
theorem bpBadPaper : BdP eBadPaper := fun _ _ _ _ _ _ us hl => match us, hl with | [_, _], _ => rfl
theorem bkBadPaper : BdK eBadPaper := fun _ _ _ _ _ _ _ ws hl => match ws, hl with | [_], _ => rfl
theorem bpNoStranger : BdP eNoStranger := fun _ _ _ _ _ _ us hl => match us, hl with | [_, _], _ => rfl
theorem bkNoStranger : BdK eNoStranger := fun _ _ _ _ _ _ _ ws hl => match ws, hl with | [_], _ => rfl
theorem bpNoKeeper : BdP eNoKeeper := fun _ _ _ _ _ _ us hl => match us, hl with | [_, _], _ => rfl
theorem bkNoKeeper : BdK eNoKeeper := fun _ _ _ _ _ _ _ ws hl => match ws, hl with | [_], _ => rfl
theorem bpLoser : BdP eLoser := fun _ _ _ _ _ _ us hl => match us, hl with | [_, _], _ => rfl
theorem bkLoser : BdK eLoser := fun _ _ _ _ _ _ _ ws hl => match ws, hl with | [_], _ => rfl
theorem bpLeft : BdP eLeft := fun _ _ _ _ _ _ us hl => match us, hl with | [_, _], _ => rfl
theorem bkLeft : BdK eLeft := fun _ _ _ _ _ _ _ ws hl => match ws, hl with | [_], _ => rfl
theorem bpNoHand : BdP eNoHand := fun _ _ _ _ _ _ us hl => match us, hl with | [_, _], _ => rfl
theorem bkNoHand : BdK eNoHand := fun _ _ _ _ _ _ _ ws hl => match ws, hl with | [_], _ => rfl
theorem bpNoRow : BdP eNoRow := fun _ _ _ _ _ _ us hl => match us, hl with | [_, _], _ => rfl
theorem bkNoRow : BdK eNoRow := fun _ _ _ _ _ _ _ ws hl => match ws, hl with | [_], _ => rfl
theorem bpNotEven : BdP eNotEven := fun _ _ _ _ _ _ us hl => match us, hl with | [_, _], _ => rfl
theorem bkNotEven : BdK eNotEven := fun _ _ _ _ _ _ _ ws hl => match ws, hl with | [_], _ => rfl
theorem bpTooNarrow : BdP eTooNarrow := fun _ _ _ _ _ _ us hl => match us, hl with | [_, _], _ => rfl
theorem bkTooNarrow : BdK eTooNarrow := fun _ _ _ _ _ _ _ ws hl => match ws, hl with | [_], _ => rfl
theorem bpBeyond : BdP eBeyond := fun _ _ _ _ _ _ us hl => match us, hl with | [_, _], _ => rfl
theorem bkBeyond : BdK eBeyond := fun _ _ _ _ _ _ _ ws hl => match ws, hl with | [_], _ => rfl
theorem bpDone : BdP eDone := fun _ _ _ _ _ _ us hl => match us, hl with | [_, _], _ => rfl
theorem bkDone : BdK eDone := fun _ _ _ _ _ _ _ ws hl => match ws, hl with | [_], _ => rfl
theorem bpBroken : BdP eBroken := fun _ _ _ _ _ _ us hl => match us, hl with | [_, _], _ => rfl
theorem bkBroken : BdK eBroken := fun _ _ _ _ _ _ _ ws hl => match ws, hl with | [_], _ => rfl
theorem bpTwice : BdP eTwice := fun _ _ _ _ _ _ us hl => match us, hl with | [_, _], _ => rfl
theorem bkTwice : BdK eTwice := fun _ _ _ _ _ _ _ ws hl => match ws, hl with | [_], _ => rfl
theorem bpUnlike : BdP eUnlike := fun _ _ _ _ _ _ us hl => match us, hl with | [_, _], _ => rfl
theorem bkUnlike : BdK eUnlike := fun _ _ _ _ _ _ _ ws hl => match ws, hl with | [_], _ => rfl
theorem bpNotGood : BdP eNotGood := fun _ _ _ _ _ _ us hl => match us, hl with | [_, _], _ => rfl
theorem bkNotGood : BdK eNotGood := fun _ _ _ _ _ _ _ ws hl => match ws, hl with | [_], _ => rfl
theorem bpNotTwo : BdP eNotTwo := fun _ _ _ _ _ _ us hl => match us, hl with | [_, _], _ => rfl
theorem bkNotTwo : BdK eNotTwo := fun _ _ _ _ _ _ _ ws hl => match ws, hl with | [_], _ => rfl
theorem bpAhead : BdP eAhead := fun _ _ _ _ _ _ us hl => match us, hl with | [_, _, _], _ => rfl
theorem bkAhead : BdK eAhead := fun _ _ _ _ _ _ _ ws hl => match ws, hl with | [_, _], _ => rfl
theorem bpNotCoprime : BdP eNotCoprime := fun _ _ _ _ _ _ us hl => match us, hl with | [_, _, _], _ => rfl
theorem bkNotCoprime : BdK eNotCoprime := fun _ _ _ _ _ _ _ ws hl => match ws, hl with | [_, _], _ => rfl
theorem bpObjected : BdP eObjected := fun _ _ _ _ _ _ us hl => match us, hl with | [_, _, _], _ => rfl
theorem bkObjected : BdK eObjected := fun _ _ _ _ _ _ _ ws hl => match ws, hl with | [_, _], _ => rfl
theorem bpDrawnOut : BdP eDrawnOut := fun _ _ _ _ _ _ us hl => match us, hl with | [_, _, _], _ => rfl
theorem bkDrawnOut : BdK eDrawnOut := fun _ _ _ _ _ _ _ ws hl => match ws, hl with | [_, _], _ => rfl
theorem bpRing : BdP eRing := fun _ _ _ _ _ _ us hl => match us, hl with | [_, _, _], _ => rfl
theorem bkRing : BdK eRing := fun _ _ _ _ _ _ _ ws hl => match ws, hl with | [_, _], _ => rfl
theorem bpLeans : BdP eLeans := fun _ _ _ _ _ _ us hl => match us, hl with | [_, _, _], _ => rfl
theorem bkLeans : BdK eLeans := fun _ _ _ _ _ _ _ ws hl => match ws, hl with | [_, _], _ => rfl
theorem bpNoWay : BdP eNoWay := fun _ _ _ _ _ _ us hl => match us, hl with | [_, _, _], _ => rfl
theorem bkNoWay : BdK eNoWay := fun _ _ _ _ _ _ _ ws hl => match ws, hl with | [_, _], _ => rfl
theorem bpTooMany : BdP eTooMany := fun _ _ _ _ _ _ us hl => match us, hl with | [_, _, _], _ => rfl
theorem bkTooMany : BdK eTooMany := fun _ _ _ _ _ _ _ ws hl => match ws, hl with | [_, _], _ => rfl
theorem bpBadText : BdP eBadText := fun _ _ _ _ _ _ us hl => match us, hl with | [_, _, _], _ => rfl
theorem bkBadText : BdK eBadText := fun _ _ _ _ _ _ _ ws hl => match ws, hl with | [_, _], _ => rfl
theorem bpBadLine : BdP eBadLine := fun _ _ _ _ _ _ us hl => match us, hl with | [_, _, _], _ => rfl
theorem bkBadLine : BdK eBadLine := fun _ _ _ _ _ _ _ ws hl => match ws, hl with | [_, _], _ => rfl
theorem bpBelow : BdP eBelow := fun _ _ _ _ _ _ us hl => match us, hl with | [_, _, _, _], _ => rfl
theorem bkBelow : BdK eBelow := fun _ _ _ _ _ _ _ ws hl => match ws, hl with | [_, _, _], _ => rfl
theorem bpObjects : BdP eObjects := fun _ _ _ _ _ _ us hl => match us, hl with | [_, _, _, _], _ => rfl
theorem bkObjects : BdK eObjects := fun _ _ _ _ _ _ _ ws hl => match ws, hl with | [_, _, _], _ => rfl
theorem bpMissing : BdP eMissing := fun _ _ _ _ _ _ us hl => match us, hl with | [_, _], _ => rfl
theorem bkMissing : BdK eMissing := fun _ _ _ _ _ _ _ ws hl => match ws, hl with | [_], _ => rfl
end K0

namespace K0
open PySem PySem.Spec PyProof.Rows L2

/-! Values told the same while H0 stands. -/
def OneS (H0 : Hp) (σ : L2.St) (te : TE) (v : V) : Prop := ∀ H Q, Same H0 H → Q v H → te σ H Q
def ArgS (H0 : Hp) (σ : L2.St) (ta : TA) (vs : List V) : Prop := ∀ H Q, Same H0 H → Q vs H → ta σ H Q
theorem ArgS.nil {H0 : Hp} {σ : L2.St} : ArgS H0 σ tNil [] := fun H Q _ k => k
theorem ArgS.cons {H0 : Hp} {σ : L2.St} {te : TE} {ta : TA} {v : V} {vs : List V} (h : OneS H0 σ te v) (t : ArgS H0 σ ta vs) : ArgS H0 σ (tCons te ta) (v :: vs) := fun H Q s k => h H _ s (t H _ s k)
theorem OneS.var {H0 : Hp} {σ : L2.St} {i : Nat} {v : V} (h : σ[i]? = some (some v)) : OneS H0 σ (tVar i) v := fun H Q _ k => ⟨v, h, k⟩
theorem OneS.c {H0 : Hp} {σ : L2.St} {v : V} : OneS H0 σ (tC v) v := fun H Q _ k => k
theorem OneS.less {H0 H1 : Hp} {σ : L2.St} {te : TE} {v : V} (s : Same H0 H1) (h : OneS H0 σ te v) : OneS H1 σ te v := fun H Q t k => h H Q (s.trans t) k
/-- x = [..] -/
theorem vals_step {σ : L2.St} {H0 H : Hp} {D : Ends} {i : Nat} {ta : TA} {vs : List V} (hm : ArgS H0 σ ta vs) (s : Same H0 H) (hz : vs.length ≤ 1000)
    (k : ∀ p H', Same H H' → H' p = some (.lst vs) → D.nx (σ.set i (some (.ref p))) H') : tAsg (tLst ta) (gName i) D σ H :=
  hm H _ s ⟨by rw [sizeLine_eq]; omega, fun p hp => k p _ (fun b o e => by rw [upd_ne (ne_of_none e hp)]; exact e) upd_same⟩
theorem vals_ret {σ : L2.St} {H0 H : Hp} {D : Ends} {ta : TA} {vs : List V} (hm : ArgS H0 σ ta vs) (s : Same H0 H) (hz : vs.length ≤ 1000)
    (k : ∀ p H', Same H H' → H p = none → H' p = some (.lst vs) → D.rt (.ref p) H') : tRet (tLst ta) D σ H :=
  hm H _ s ⟨by rw [sizeLine_eq]; omega, fun p hp => k p _ (fun b o e => by rw [upd_ne (ne_of_none e hp)]; exact e) hp upd_same⟩
/-- x = x + [..] -/
theorem vcat_step {σ : L2.St} {H0 H : Hp} {D : Ends} {i : Nat} {ta : TA} {us vs : List V} {p : Addr} (hσ : σ[i]? = some (some (.ref p))) (hp : H p = some (.lst us)) (hm : ArgS H0 σ ta vs) (s : Same H0 H) (hz : us.length + vs.length ≤ 1000)
    (k : ∀ p H', Same H H' → H' p = some (.lst (us ++ vs)) → D.nx (σ.set i (some (.ref p))) H') : tAsg (tOp rCat (tVar i) (tLst ta)) (gName i) D σ H := by
  refine ⟨_, hσ, hm H _ s ⟨by rw [sizeLine_eq]; omega, fun p1 hp1 => ?_⟩⟩
  have s2 : Same H (upd H p1 (.lst vs)) := fun b o e => by rw [upd_ne (ne_of_none e hp1)]; exact e
  refine ⟨p, p1, _, _, rfl, rfl, s2 _ _ hp, upd_same, by rw [sizeLine_eq]; omega, fun p2 hp2 => ?_⟩
  have s3 : Same (upd H p1 (.lst vs)) (upd (upd H p1 (.lst vs)) p2 (.lst (us ++ vs))) := fun b o e => by rw [upd_ne (ne_of_none e hp2)]; exact e
  exact k p2 _ (s2.trans s3) upd_same
theorem vcat_stepN {σ : L2.St} {σ' : Addr → L2.St} {H0 H : Hp} {D : Ends} {i : Nat} {ta : TA} {us vs : List V} {p : Addr} (hn : ∀ q, σ.set i (some (.ref q)) = σ' q) (hσ : σ[i]? = some (some (.ref p))) (hp : H p = some (.lst us)) (hm : ArgS H0 σ ta vs) (s : Same H0 H) (hz : us.length + vs.length ≤ 1000)
    (k : ∀ p H', Same H H' → H' p = some (.lst (us ++ vs)) → D.nx (σ' p) H') : tAsg (tOp rCat (tVar i) (tLst ta)) (gName i) D σ H :=
  vcat_step hσ hp hm s hz fun p H' s' h => by rw [hn]; exact k p H' s' h
/-- isinstance(x, C) -/
theorem isx_one {K : PySem.W.Frag} {σ : L2.St} {H0 : Hp} {i : Nat} {a C : Addr} {c : V} {cv : Value} {b : Bool} (hσ : σ[i]? = some (some (.ref a))) (hx : ExA H0 a C) (T : XCls K C) (hc : ClsV c cv) (hk : PySem.W.kitOne K (.ref C) cv = some b) :
    OneS H0 σ (tCB (rIsX K) (tCons (tVar i) (tCons (tC c) tNil))) (.bl b) := fun H Q s k => ⟨_, hσ, a, C, c, cv, b, rfl, hc, hx.same s, T, hk, k⟩
end K0

namespace K0
open PySem PySem.Spec PyProof.Rows L2

/-- the one field of the class at place n -/
def fldOf (n : Nat) : Str := if n < 21 then "part" else if n < 25 then "name" else if n < 32 then "number" else if n = 32 then "value" else if n = 33 then "what" else if n = 34 then "moment" else "many"
def HasF (K : PySem.W.Frag) (H : Hp) (a C : Addr) (f : Str) (v : V) : Prop := ∃ fs, Ex H a C fs ∧ XfC K C ∧ PySem.W.findIn K (.ref C) f = some none ∧ fs.lookup f = some v
def spOne (K : PySem.W.Frag) : Sp := fun vs H Q _ => ∃ (a C : Addr) (v : V) (n : Nat), vs = [.ref a, .int n] ∧ n < 36 ∧ HasF K H a C (fldOf n) v ∧ Q v H
theorem xat_one {K : PySem.W.Frag} {σ : L2.St} {H0 : Hp} {i : Nat} {a C : Addr} {f : Str} {v : V} (hσ : σ[i]? = some (some (.ref a))) (h : HasF K H0 a C f v) : OneS H0 σ (tXat K f (tVar i)) v := fun H Q s k => by
  obtain ⟨fs, hx, hf, hn, hl⟩ := h
  exact ⟨_, hσ, a, C, fs, v, rfl, hx.same s, hf, hn, hl, k⟩
theorem lt_step {n m : Nat} {i : Nat} {σ : L2.St} {H : Hp} {D : Ends} {t u : TS} (hσ : σ[i]? = some (some (.int n))) (h1 : n < m → t D σ H) (h2 : ¬ n < m → u D σ H) :
    tIfS (tTest (tOp (rI0 fun i j => .bl (decide (i < j))) (tVar i) (tC (.int m)))) t u D σ H := by
  refine ⟨_, hσ, _, _, rfl, rfl, _, rfl, ?_⟩
  by_cases h : n < m
  · have h' : (n : Int) < (m : Int) := by omega
    rw [decide_eq_true h']
    exact iteT (h1 h)
  · have h' : ¬ (n : Int) < (m : Int) := by omega
    rw [decide_eq_false h']
    exact iteF (h2 h)
theorem eq_if {n m : Nat} {i : Nat} {σ : L2.St} {H : Hp} {Q : VK} {t u : TE} (hσ : σ[i]? = some (some (.int n))) (h1 : n = m → t σ H Q) (h2 : ¬ n = m → u σ H Q) :
    tIf (tTest (tOp rEq (tVar i) (tC (.int m)))) t u σ H Q := by
  refine ⟨_, hσ, rfl, _, rfl, ?_⟩
  by_cases h : n = m
  · have h' : V.int (n : Int) = V.int (m : Int) := by rw [h]
    rw [decide_eq_true h']
    exact iteT (h1 h)
  · have h' : ¬ V.int (n : Int) = V.int (m : Int) := fun e => h (by injection e with e; omega)
    rw [decide_eq_false h']
    exact iteF (h2 h)
section
variable {P : Program} {w : World} {K : PySem.W.Frag} {mg : Str → Option Value} {base : Heap} {f : Addr} {fd : FuncData}
theorem scOne : FnScope ["_law_error", "_law_place"] ["_law_error", "_law_place"] (defScope sOne) := ⟨rfl, rfl, rfl, by decide +kernel, rfl, by decide +kernel, by decide +kernel⟩
theorem ok_one (F : DefAt K "_law_one_field" "_law_one_field" sOne f fd) : FnOk P w K mg base CX0 1 f fd ["_law_error", "_law_place"] (spOne K) := by
  refine okD F scOne (fun vs H Q E h => ?_) (fun cdv A outer s H vs Q E hr h => ?_)
  · obtain ⟨a, C, v, n, rfl, _⟩ := h
    rfl
  · obtain ⟨a, C, v, n, rfl, hn, hf, k⟩ := h
    refine ⟨_, pss_cons (ps_if (pt_cmpR op_lt (pv 1) pe_int (nomark _)) (pss_one (ps_ret (pe_xat (pv 0)))) pss_nil)
      (pss_cons (ps_if (pt_cmpR op_lt (pv 1) pe_int (nomark _)) (pss_one (ps_ret (pe_xat (pv 0)))) pss_nil)
      (pss_cons (ps_if (pt_cmpR op_lt (pv 1) pe_int (nomark _)) (pss_one (ps_ret (pe_xat (pv 0)))) pss_nil)
      (pss_cons (ps_if (pt_cmpR op_lt (pv 1) pe_int (nomark _)) (pss_one (ps_ret (pe_ifExp (pt_cmpR op_eq (pv 1) pe_int (nomark _)) (pe_xat (pv 0)) (pe_xat (pv 0))))) pss_nil)
      (pss_one (ps_ret (pe_ifExp (pt_cmpR op_eq (pv 1) pe_int (nomark _)) (pe_xat (pv 0)) (pe_xat (pv 0)))))))), ?_⟩
    have go : ∀ {g : Str}, fldOf n = g → tXat K g (tVar 0) [some (.ref a), some (.int n)] H Q := fun e => by
      rw [e] at hf
      exact xat_one rfl hf H Q (Same.refl H) k
    refine lt_step (m := 21) rfl (fun h1 => go (by unfold fldOf; rw [if_pos h1])) fun h1 => ?_
    refine lt_step (m := 25) rfl (fun h2 => go (by unfold fldOf; rw [if_neg h1, if_pos h2])) fun h2 => ?_
    refine lt_step (m := 32) rfl (fun h3 => go (by unfold fldOf; rw [if_neg h1, if_neg h2, if_pos h3])) fun h3 => ?_
    refine lt_step (m := 34) rfl (fun h4 => ?_) fun h4 => ?_
    · refine eq_if (m := 32) rfl (fun h5 => go (by unfold fldOf; rw [if_neg h1, if_neg h2, if_neg h3, if_pos h5])) fun h5 => go ?_
      unfold fldOf
      rw [if_neg h1, if_neg h2, if_neg h3, if_neg h5, if_pos (by omega)]
    · refine eq_if (m := 34) rfl (fun h5 => go (by unfold fldOf; rw [if_neg h1, if_neg h2, if_neg h3, if_neg (by omega), if_neg (by omega), if_pos h5])) fun h5 => go ?_
      unfold fldOf
      rw [if_neg h1, if_neg h2, if_neg h3, if_neg (by omega), if_neg (by omega), if_neg h5]

/-- the fields of the class at place n, as they stand in the table -/
theorem one_fl : ∀ {n : Nat} {e : Ent}, n < 36 → tab[n]? = some e → e.fl = [fldOf n] := by
  have h : (List.range 36).all (fun n => (tab[n]?.map Ent.fl) == some [fldOf n]) = true := by decide +kernel
  intro n e hn he
  have z := List.all_eq_true.mp h n (List.mem_range.mpr hn)
  rw [he] at z
  have z' := eq_of_beq z
  exact Option.some.inj z'
def spFields (K : PySem.W.Frag) : Sp := fun vs H Q _ => ∃ (a C : Addr) (zs : List V) (n : Nat) (e : Ent), vs = [.ref a, .int n] ∧ n < 50 ∧ tab[n]? = some e ∧ zs.length = e.fl.length ∧
  (∀ f v, (e.fl.zip zs).lookup f = some v → HasF K H a C f v) ∧ ∀ (p : Addr) (H' : Hp), Same H H' → H p = none → H' p = some (.lst zs) → Q (.ref p) H'
theorem scFields : FnScope ["_law_error", "_law_place"] ["_law_error", "_law_place"] (defScope sFields) := ⟨rfl, rfl, rfl, by decide +kernel, rfl, by decide +kernel, by decide +kernel⟩
theorem ok_fields {f1 : Addr} {fd1 : FuncData} (m1 : mg "_law_one_field" = some (.ref f1)) (k1 : PySem.W.keepIn K (.ref f1) = true) (F1 : DefAt K "_law_one_field" "_law_one_field" sOne f1 fd1)
    (F : DefAt K "_law_fields" "_law_fields" sFields f fd) : FnOk P w K mg base CX0 2 f fd ["_law_error", "_law_place"] (spFields K) := by
  refine okD F scFields (fun vs H Q E h => ?_) (fun cdv A outer s H vs Q E hr h => ?_)
  · obtain ⟨a, C, zs, n, e, rfl, _⟩ := h
    rfl
  · obtain ⟨a, C, zs, n, e, rfl, hn, he, hl, hf, k⟩ := h
    have b1 : Binds K fd1 ["_law_error", "_law_place"] [] := F1.bindsN fun _ _ _ _ _ _ us hl => match us, hl with | [_, _], _ => rfl
    refine ⟨_, pss_cons (ps_if (pt_cmpR op_lt (pv 1) pe_int (nomark _)) (pss_one (ps_ret (pe_lst (pa_cons (pe_call (ok_one F1) hr (by rfl) m1 k1 b1 .nil pass0 (pa_cons (pv 0) (pa_cons (pv 1) pa_nil))) pa_nil)))) pss_nil)
      (pss_cons (ps_if (pt_cmpR op_lt (pv 1) pe_int (nomark _)) (pss_one (ps_ret (pe_lst (pa_cons (pe_xat (pv 0)) (pa_cons (pe_xat (pv 0)) pa_nil))))) pss_nil)
      (pss_cons (ps_if (pt_cmpR op_lt (pv 1) pe_int (nomark _)) (pss_one (ps_ret (pe_lst (pa_cons (pe_xat (pv 0)) (pa_cons (pe_xat (pv 0)) pa_nil))))) pss_nil)
      (pss_cons (ps_if (pt_cmpR op_lt (pv 1) pe_int (nomark _)) (pss_one (ps_ret (pe_lst (pa_cons (pe_xat (pv 0)) (pa_cons (pe_ifExp (pt_cmpR op_eq (pv 1) pe_int (nomark _)) (pe_xat (pv 0)) (pe_xat (pv 0))) pa_nil))))) pss_nil)
      (pss_cons (ps_if (pt_cmpR op_lt (pv 1) pe_int (nomark _)) (pss_one (ps_ret (pe_ifExp (pt_cmpR op_eq (pv 1) pe_int (nomark _)) (pe_lst (pa_cons (pe_xat (pv 0)) (pa_cons (pe_xat (pv 0)) pa_nil))) (pe_lst (pa_cons (pe_xat (pv 0)) (pa_cons (pe_xat (pv 0)) pa_nil)))))) pss_nil)
      (pss_cons (ps_if (pt_cmpR op_lt (pv 1) pe_int (nomark _)) (pss_one (ps_ret (pe_lst (pa_cons (pe_xat (pv 0)) (pa_cons (pe_ifExp (pt_cmpR op_eq (pv 1) pe_int (nomark _)) (pe_xat (pv 0)) (pe_xat (pv 0))) pa_nil))))) pss_nil)
      (pss_cons (ps_if (pt_cmpR op_lt (pv 1) pe_int (nomark _)) (pss_one (ps_ret (pe_ifExp (pt_cmpR op_eq (pv 1) pe_int (nomark _)) (pe_lst (pa_cons (pe_xat (pv 0)) (pa_cons (pe_xat (pv 0)) (pa_cons (pe_xat (pv 0)) pa_nil)))) (pe_lst (pa_cons (pe_xat (pv 0)) (pa_cons (pe_xat (pv 0)) (pa_cons (pe_xat (pv 0)) pa_nil))))))) pss_nil)
      (pss_one (ps_ret (pe_lst pa_nil))))))))), ?_⟩
    have two : ∀ {f1 f2 : Str} {te te' : TE}, e.fl = [f1, f2] → (f2 == f1) = false → (∀ v, HasF K H a C f1 v → OneS H [some (.ref a), some (.int n)] te v) → (∀ v, HasF K H a C f2 v → OneS H [some (.ref a), some (.int n)] te' v) → tLst (tCons te (tCons te' tNil)) [some (.ref a), some (.int n)] H Q := by
      intro f1 f2 te te' e1 ne g1 g2
      rw [e1] at hl hf
      match zs, hl with
      | [v1, v2], _ =>
        have q1 := g1 v1 (hf f1 v1 (by simp [List.lookup]))
        have q2 := g2 v2 (hf f2 v2 (by simp [List.lookup, ne]))
        exact vals_ret (D := ⟨fun _ _ => True, fun v H => Q v H, fun _ _ => True, fun _ _ => True⟩) (.cons q1 (.cons q2 .nil)) (Same.refl H) (Nat.le_of_ble_eq_true rfl) k
    have three : ∀ {f1 f2 f3 : Str}, e.fl = [f1, f2, f3] → (f2 == f1) = false → (f3 == f1) = false → (f3 == f2) = false → tLst (tCons (tXat K f1 (tVar 0)) (tCons (tXat K f2 (tVar 0)) (tCons (tXat K f3 (tVar 0)) tNil))) [some (.ref a), some (.int n)] H Q := by
      intro f1 f2 f3 e1 n1 n2 n3
      rw [e1] at hl hf
      match zs, hl with
      | [v1, v2, v3], _ =>
        have q1 := hf f1 v1 (by simp [List.lookup])
        have q2 := hf f2 v2 (by simp [List.lookup, n1])
        have q3 := hf f3 v3 (by simp [List.lookup, n2, n3])
        exact vals_ret (D := ⟨fun _ _ => True, fun v H => Q v H, fun _ _ => True, fun _ _ => True⟩) (.cons (xat_one rfl q1) (.cons (xat_one rfl q2) (.cons (xat_one rfl q3) .nil))) (Same.refl H) (Nat.le_of_ble_eq_true rfl) k
    have flAt : ∀ {m : Nat} {g : List Str}, n = m → (tab[m]?.map Ent.fl) = some g → e.fl = g := fun em eg => by
      subst em
      rw [he] at eg
      exact Option.some.inj eg
    refine lt_step (m := 36) rfl (fun h1 => ?_) fun h1 => ?_
    · have e1 := one_fl h1 he
      rw [e1] at hl hf
      match zs, hl with
      | [v], _ =>
        have hv := hf (fldOf n) v (by simp [List.lookup])
        refine vals_ret (vs := [v]) (H0 := H) (.cons (fun H2 Q2 s2 k2 => ?_) .nil) (Same.refl H) (Nat.le_of_ble_eq_true rfl) k
        obtain ⟨fs, hx, hff, hnn, hll⟩ := hv
        exact ⟨_, rfl, _, rfl, a, C, v, n, rfl, h1, ⟨fs, hx.same s2, hff, hnn, hll⟩, k2⟩
    refine lt_step (m := 38) rfl (fun h2 => ?_) fun h2 => ?_
    · rcases (show n = 36 ∨ n = 37 by omega) with z | z
      · exact two (flAt z rfl) (by decide) (fun v hv => xat_one rfl hv) (fun v hv => xat_one rfl hv)
      · exact two (flAt z rfl) (by decide) (fun v hv => xat_one rfl hv) (fun v hv => xat_one rfl hv)
    refine lt_step (m := 40) rfl (fun h3 => ?_) fun h3 => ?_
    · rcases (show n = 38 ∨ n = 39 by omega) with z | z
      · exact two (flAt z rfl) (by decide) (fun v hv => xat_one rfl hv) (fun v hv => xat_one rfl hv)
      · exact two (flAt z rfl) (by decide) (fun v hv => xat_one rfl hv) (fun v hv => xat_one rfl hv)
    refine lt_step (m := 42) rfl (fun h4 => ?_) fun h4 => ?_
    · rcases (show n = 40 ∨ n = 41 by omega) with z | z
      · exact two (flAt z rfl) (by decide) (fun v hv => xat_one rfl hv) (fun v hv H2 Q2 s2 k2 => eq_if (m := 40) rfl (fun _ => xat_one rfl hv H2 Q2 s2 k2) (fun h => absurd z h))
      · exact two (flAt z rfl) (by decide) (fun v hv => xat_one rfl hv) (fun v hv H2 Q2 s2 k2 => eq_if (m := 40) rfl (fun h => absurd (h.symm.trans z) (by decide)) (fun _ => xat_one rfl hv H2 Q2 s2 k2))
    refine lt_step (m := 44) rfl (fun h5 => ?_) fun h5 => ?_
    · refine eq_if (m := 42) rfl (fun z => ?_) fun z => ?_
      · exact two (flAt z rfl) (by decide) (fun v hv => xat_one rfl hv) (fun v hv => xat_one rfl hv)
      · exact two (flAt (show n = 43 by omega) rfl) (by decide) (fun v hv => xat_one rfl hv) (fun v hv => xat_one rfl hv)
    refine lt_step (m := 46) rfl (fun h6 => ?_) fun h6 => ?_
    · rcases (show n = 44 ∨ n = 45 by omega) with z | z
      · exact two (flAt z rfl) (by decide) (fun v hv => xat_one rfl hv) (fun v hv H2 Q2 s2 k2 => eq_if (m := 44) rfl (fun _ => xat_one rfl hv H2 Q2 s2 k2) (fun h => absurd z h))
      · exact two (flAt z rfl) (by decide) (fun v hv => xat_one rfl hv) (fun v hv H2 Q2 s2 k2 => eq_if (m := 44) rfl (fun h => absurd (h.symm.trans z) (by decide)) (fun _ => xat_one rfl hv H2 Q2 s2 k2))
    refine lt_step (m := 48) rfl (fun h7 => ?_) fun h7 => ?_
    · refine eq_if (m := 46) rfl (fun z => ?_) fun z => ?_
      · exact three (flAt z rfl) (by decide) (by decide) (by decide)
      · exact three (flAt (show n = 47 by omega) rfl) (by decide) (by decide) (by decide)
    · have e0 : e.fl = [] := by
        rcases (show n = 48 ∨ n = 49 by omega) with z | z
        · exact flAt z rfl
        · exact flAt z rfl
      rw [e0] at hl
      match zs, hl with
      | [], _ => exact vals_ret (σ := [some (.ref a), some (.int n)]) (H0 := H) .nil (Same.refl H) (Nat.le_of_ble_eq_true rfl) k
end
end K0

namespace K0
open PySem PySem.Spec PyProof.Rows L2

def spKin (K : PySem.W.Frag) : Sp := fun vs H Q _ => ∃ (a C : Addr) (bs : Nat → Bool), vs = [.ref a] ∧ ExA H a C ∧ XCls K C ∧ (∀ (j : Nat) (e : Ent), tab[j]? = some e → PySem.W.kitOne K (.ref C) (.ref (e.C K)) = some (bs j)) ∧
  ∀ (p : Addr) (H' : Hp), Same H H' → H' p = some (.lst ((List.range 50).map fun j => V.bl (bs j))) → Q (.ref p) H'
theorem range50 : List.range 50 = [0, 1, 2, 3, 4, 5, 6, 7, 8, 9, 10, 11, 12, 13, 14, 15, 16, 17, 18, 19, 20, 21, 22, 23, 24, 25, 26, 27, 28, 29, 30, 31, 32, 33, 34, 35, 36, 37, 38, 39, 40, 41, 42, 43, 44, 45, 46, 47, 48, 49] := by decide +kernel
theorem kin_list (bs : Nat → Bool) : ((List.range 50).map fun j => V.bl (bs j)) = [V.bl (bs 0), V.bl (bs 1), V.bl (bs 2), V.bl (bs 3), V.bl (bs 4), V.bl (bs 5), V.bl (bs 6), V.bl (bs 7), V.bl (bs 8), V.bl (bs 9), V.bl (bs 10), V.bl (bs 11), V.bl (bs 12), V.bl (bs 13), V.bl (bs 14), V.bl (bs 15), V.bl (bs 16), V.bl (bs 17), V.bl (bs 18), V.bl (bs 19), V.bl (bs 20), V.bl (bs 21), V.bl (bs 22), V.bl (bs 23), V.bl (bs 24), V.bl (bs 25), V.bl (bs 26), V.bl (bs 27), V.bl (bs 28), V.bl (bs 29), V.bl (bs 30), V.bl (bs 31), V.bl (bs 32), V.bl (bs 33), V.bl (bs 34), V.bl (bs 35), V.bl (bs 36), V.bl (bs 37), V.bl (bs 38), V.bl (bs 39), V.bl (bs 40), V.bl (bs 41), V.bl (bs 42), V.bl (bs 43), V.bl (bs 44), V.bl (bs 45), V.bl (bs 46), V.bl (bs 47), V.bl (bs 48), V.bl (bs 49)] := by
  rw [range50]
  rfl
section
variable {P : Program} {w : World} {K : PySem.W.Frag} {mg : Str → Option Value} {base : Heap} {f : Addr} {fd : FuncData}
theorem scKin : FnScope ["_law_error", "_law_kin_here"] ["_law_error"] (defScope sKin) := ⟨rfl, rfl, rfl, by decide +kernel, rfl, by decide +kernel, by decide +kernel⟩
theorem ok_kin (G : Glob mg) (M : Mks P w K mg base) (F : DefAt K "_law_kin" "_law_kin" sKin f fd) : FnOk P w K mg base CX0 1 f fd ["_law_error"] (spKin K) := by
  refine okD F scKin (fun vs H Q E h => ?_) (fun cdv A outer s H vs Q E hr h => ?_)
  · obtain ⟨a, C, bs, rfl, _⟩ := h
    rfl
  · obtain ⟨a, C, bs, rfl, hx, T, hk, k⟩ := h
    refine ⟨_, (pss_cons (ps_set (i := 1) scKin.nd rfl (Or.inl rfl) (pe_lst (pa_cons (pe_callB call_isX (by rfl) G.isi (by decide +kernel) (pa_cons (pv 0) (pa_cons (pe_glob (v := .ref (eBadRatio.C K)) (by rfl) (M.f 0 eBadRatio rfl (List.cons_ne_nil _ _)).mgC rfl) pa_nil))) (pa_cons (pe_callB call_isX (by rfl) G.isi (by decide +kernel) (pa_cons (pv 0) (pa_cons (pe_glob (v := .ref (eBadHandOver.C K)) (by rfl) (M.f 1 eBadHandOver rfl (List.cons_ne_nil _ _)).mgC rfl) pa_nil))) (pa_cons (pe_callB call_isX (by rfl) G.isi (by decide +kernel) (pa_cons (pv 0) (pa_cons (pe_glob (v := .ref (eBadSwap.C K)) (by rfl) (M.f 2 eBadSwap rfl (List.cons_ne_nil _ _)).mgC rfl) pa_nil))) pa_nil)))))
      (pss_cons (ps_set (i := 1) scKin.nd rfl (Or.inl rfl) (pe_op op_cat (pv 1) (pe_lst (pa_cons (pe_callB call_isX (by rfl) G.isi (by decide +kernel) (pa_cons (pv 0) (pa_cons (pe_glob (v := .ref (eBadBounds.C K)) (by rfl) (M.f 3 eBadBounds rfl (List.cons_ne_nil _ _)).mgC rfl) pa_nil))) (pa_cons (pe_callB call_isX (by rfl) G.isi (by decide +kernel) (pa_cons (pv 0) (pa_cons (pe_glob (v := .ref (eBadLeanings.C K)) (by rfl) (M.f 4 eBadLeanings rfl (List.cons_ne_nil _ _)).mgC rfl) pa_nil))) (pa_cons (pe_callB call_isX (by rfl) G.isi (by decide +kernel) (pa_cons (pv 0) (pa_cons (pe_glob (v := .ref (eBadDeal.C K)) (by rfl) (M.f 5 eBadDeal rfl (List.cons_ne_nil _ _)).mgC rfl) pa_nil))) pa_nil))))))
      (pss_cons (ps_set (i := 1) scKin.nd rfl (Or.inl rfl) (pe_op op_cat (pv 1) (pe_lst (pa_cons (pe_callB call_isX (by rfl) G.isi (by decide +kernel) (pa_cons (pv 0) (pa_cons (pe_glob (v := .ref (eBadRow.C K)) (by rfl) (M.f 6 eBadRow rfl (List.cons_ne_nil _ _)).mgC rfl) pa_nil))) (pa_cons (pe_callB call_isX (by rfl) G.isi (by decide +kernel) (pa_cons (pv 0) (pa_cons (pe_glob (v := .ref (eBadDone.C K)) (by rfl) (M.f 7 eBadDone rfl (List.cons_ne_nil _ _)).mgC rfl) pa_nil))) (pa_cons (pe_callB call_isX (by rfl) G.isi (by decide +kernel) (pa_cons (pv 0) (pa_cons (pe_glob (v := .ref (eBadCounts.C K)) (by rfl) (M.f 8 eBadCounts rfl (List.cons_ne_nil _ _)).mgC rfl) pa_nil))) pa_nil))))))
      (pss_cons (ps_set (i := 1) scKin.nd rfl (Or.inl rfl) (pe_op op_cat (pv 1) (pe_lst (pa_cons (pe_callB call_isX (by rfl) G.isi (by decide +kernel) (pa_cons (pv 0) (pa_cons (pe_glob (v := .ref (eBadDial.C K)) (by rfl) (M.f 9 eBadDial rfl (List.cons_ne_nil _ _)).mgC rfl) pa_nil))) (pa_cons (pe_callB call_isX (by rfl) G.isi (by decide +kernel) (pa_cons (pv 0) (pa_cons (pe_glob (v := .ref (eBadWay.C K)) (by rfl) (M.f 10 eBadWay rfl (List.cons_ne_nil _ _)).mgC rfl) pa_nil))) (pa_cons (pe_callB call_isX (by rfl) G.isi (by decide +kernel) (pa_cons (pv 0) (pa_cons (pe_glob (v := .ref (eBadKeeper.C K)) (by rfl) (M.f 11 eBadKeeper rfl (List.cons_ne_nil _ _)).mgC rfl) pa_nil))) pa_nil))))))
      (pss_cons (ps_set (i := 1) scKin.nd rfl (Or.inl rfl) (pe_op op_cat (pv 1) (pe_lst (pa_cons (pe_callB call_isX (by rfl) G.isi (by decide +kernel) (pa_cons (pv 0) (pa_cons (pe_glob (v := .ref (eBadKeepers.C K)) (by rfl) (M.f 12 eBadKeepers rfl (List.cons_ne_nil _ _)).mgC rfl) pa_nil))) (pa_cons (pe_callB call_isX (by rfl) G.isi (by decide +kernel) (pa_cons (pv 0) (pa_cons (pe_glob (v := .ref (eBadLaid.C K)) (by rfl) (M.f 13 eBadLaid rfl (List.cons_ne_nil _ _)).mgC rfl) pa_nil))) (pa_cons (pe_callB call_isX (by rfl) G.isi (by decide +kernel) (pa_cons (pv 0) (pa_cons (pe_glob (v := .ref (eBadChoice.C K)) (by rfl) (M.f 14 eBadChoice rfl (List.cons_ne_nil _ _)).mgC rfl) pa_nil))) pa_nil))))))
      (pss_cons (ps_set (i := 1) scKin.nd rfl (Or.inl rfl) (pe_op op_cat (pv 1) (pe_lst (pa_cons (pe_callB call_isX (by rfl) G.isi (by decide +kernel) (pa_cons (pv 0) (pa_cons (pe_glob (v := .ref (eBadBook.C K)) (by rfl) (M.f 15 eBadBook rfl (List.cons_ne_nil _ _)).mgC rfl) pa_nil))) (pa_cons (pe_callB call_isX (by rfl) G.isi (by decide +kernel) (pa_cons (pv 0) (pa_cons (pe_glob (v := .ref (eBadStory.C K)) (by rfl) (M.f 16 eBadStory rfl (List.cons_ne_nil _ _)).mgC rfl) pa_nil))) (pa_cons (pe_callB call_isX (by rfl) G.isi (by decide +kernel) (pa_cons (pv 0) (pa_cons (pe_glob (v := .ref (eBadShare.C K)) (by rfl) (M.f 17 eBadShare rfl (List.cons_ne_nil _ _)).mgC rfl) pa_nil))) pa_nil))))))
      (pss_cons (ps_set (i := 1) scKin.nd rfl (Or.inl rfl) (pe_op op_cat (pv 1) (pe_lst (pa_cons (pe_callB call_isX (by rfl) G.isi (by decide +kernel) (pa_cons (pv 0) (pa_cons (pe_glob (v := .ref (eBadPlay.C K)) (by rfl) (M.f 18 eBadPlay rfl (List.cons_ne_nil _ _)).mgC rfl) pa_nil))) (pa_cons (pe_callB call_isX (by rfl) G.isi (by decide +kernel) (pa_cons (pv 0) (pa_cons (pe_glob (v := .ref (eBadNumber.C K)) (by rfl) (M.f 19 eBadNumber rfl (List.cons_ne_nil _ _)).mgC rfl) pa_nil))) (pa_cons (pe_callB call_isX (by rfl) G.isi (by decide +kernel) (pa_cons (pv 0) (pa_cons (pe_glob (v := .ref (eBadPaper.C K)) (by rfl) (M.f 20 eBadPaper rfl (List.cons_ne_nil _ _)).mgC rfl) pa_nil))) pa_nil))))))
      (pss_cons (ps_set (i := 1) scKin.nd rfl (Or.inl rfl) (pe_op op_cat (pv 1) (pe_lst (pa_cons (pe_callB call_isX (by rfl) G.isi (by decide +kernel) (pa_cons (pv 0) (pa_cons (pe_glob (v := .ref (eNoStranger.C K)) (by rfl) (M.f 21 eNoStranger rfl (List.cons_ne_nil _ _)).mgC rfl) pa_nil))) (pa_cons (pe_callB call_isX (by rfl) G.isi (by decide +kernel) (pa_cons (pv 0) (pa_cons (pe_glob (v := .ref (eNoKeeper.C K)) (by rfl) (M.f 22 eNoKeeper rfl (List.cons_ne_nil _ _)).mgC rfl) pa_nil))) (pa_cons (pe_callB call_isX (by rfl) G.isi (by decide +kernel) (pa_cons (pv 0) (pa_cons (pe_glob (v := .ref (eLoser.C K)) (by rfl) (M.f 23 eLoser rfl (List.cons_ne_nil _ _)).mgC rfl) pa_nil))) pa_nil))))))
      (pss_cons (ps_set (i := 1) scKin.nd rfl (Or.inl rfl) (pe_op op_cat (pv 1) (pe_lst (pa_cons (pe_callB call_isX (by rfl) G.isi (by decide +kernel) (pa_cons (pv 0) (pa_cons (pe_glob (v := .ref (eLeft.C K)) (by rfl) (M.f 24 eLeft rfl (List.cons_ne_nil _ _)).mgC rfl) pa_nil))) (pa_cons (pe_callB call_isX (by rfl) G.isi (by decide +kernel) (pa_cons (pv 0) (pa_cons (pe_glob (v := .ref (eNoHand.C K)) (by rfl) (M.f 25 eNoHand rfl (List.cons_ne_nil _ _)).mgC rfl) pa_nil))) (pa_cons (pe_callB call_isX (by rfl) G.isi (by decide +kernel) (pa_cons (pv 0) (pa_cons (pe_glob (v := .ref (eNoRow.C K)) (by rfl) (M.f 26 eNoRow rfl (List.cons_ne_nil _ _)).mgC rfl) pa_nil))) pa_nil))))))
      (pss_cons (ps_set (i := 1) scKin.nd rfl (Or.inl rfl) (pe_op op_cat (pv 1) (pe_lst (pa_cons (pe_callB call_isX (by rfl) G.isi (by decide +kernel) (pa_cons (pv 0) (pa_cons (pe_glob (v := .ref (eNotEven.C K)) (by rfl) (M.f 27 eNotEven rfl (List.cons_ne_nil _ _)).mgC rfl) pa_nil))) (pa_cons (pe_callB call_isX (by rfl) G.isi (by decide +kernel) (pa_cons (pv 0) (pa_cons (pe_glob (v := .ref (eTooNarrow.C K)) (by rfl) (M.f 28 eTooNarrow rfl (List.cons_ne_nil _ _)).mgC rfl) pa_nil))) (pa_cons (pe_callB call_isX (by rfl) G.isi (by decide +kernel) (pa_cons (pv 0) (pa_cons (pe_glob (v := .ref (eBeyond.C K)) (by rfl) (M.f 29 eBeyond rfl (List.cons_ne_nil _ _)).mgC rfl) pa_nil))) pa_nil))))))
      (pss_cons (ps_set (i := 1) scKin.nd rfl (Or.inl rfl) (pe_op op_cat (pv 1) (pe_lst (pa_cons (pe_callB call_isX (by rfl) G.isi (by decide +kernel) (pa_cons (pv 0) (pa_cons (pe_glob (v := .ref (eDone.C K)) (by rfl) (M.f 30 eDone rfl (List.cons_ne_nil _ _)).mgC rfl) pa_nil))) (pa_cons (pe_callB call_isX (by rfl) G.isi (by decide +kernel) (pa_cons (pv 0) (pa_cons (pe_glob (v := .ref (eBroken.C K)) (by rfl) (M.f 31 eBroken rfl (List.cons_ne_nil _ _)).mgC rfl) pa_nil))) (pa_cons (pe_callB call_isX (by rfl) G.isi (by decide +kernel) (pa_cons (pv 0) (pa_cons (pe_glob (v := .ref (eTwice.C K)) (by rfl) (M.f 32 eTwice rfl (List.cons_ne_nil _ _)).mgC rfl) pa_nil))) pa_nil))))))
      (pss_cons (ps_set (i := 1) scKin.nd rfl (Or.inl rfl) (pe_op op_cat (pv 1) (pe_lst (pa_cons (pe_callB call_isX (by rfl) G.isi (by decide +kernel) (pa_cons (pv 0) (pa_cons (pe_glob (v := .ref (eUnlike.C K)) (by rfl) (M.f 33 eUnlike rfl (List.cons_ne_nil _ _)).mgC rfl) pa_nil))) (pa_cons (pe_callB call_isX (by rfl) G.isi (by decide +kernel) (pa_cons (pv 0) (pa_cons (pe_glob (v := .ref (eNotGood.C K)) (by rfl) (M.f 34 eNotGood rfl (List.cons_ne_nil _ _)).mgC rfl) pa_nil))) (pa_cons (pe_callB call_isX (by rfl) G.isi (by decide +kernel) (pa_cons (pv 0) (pa_cons (pe_glob (v := .ref (eNotTwo.C K)) (by rfl) (M.f 35 eNotTwo rfl (List.cons_ne_nil _ _)).mgC rfl) pa_nil))) pa_nil))))))
      (pss_cons (ps_set (i := 1) scKin.nd rfl (Or.inl rfl) (pe_op op_cat (pv 1) (pe_lst (pa_cons (pe_callB call_isX (by rfl) G.isi (by decide +kernel) (pa_cons (pv 0) (pa_cons (pe_glob (v := .ref (eAhead.C K)) (by rfl) (M.f 36 eAhead rfl (List.cons_ne_nil _ _)).mgC rfl) pa_nil))) (pa_cons (pe_callB call_isX (by rfl) G.isi (by decide +kernel) (pa_cons (pv 0) (pa_cons (pe_glob (v := .ref (eNotCoprime.C K)) (by rfl) (M.f 37 eNotCoprime rfl (List.cons_ne_nil _ _)).mgC rfl) pa_nil))) (pa_cons (pe_callB call_isX (by rfl) G.isi (by decide +kernel) (pa_cons (pv 0) (pa_cons (pe_glob (v := .ref (eObjected.C K)) (by rfl) (M.f 38 eObjected rfl (List.cons_ne_nil _ _)).mgC rfl) pa_nil))) pa_nil))))))
      (pss_cons (ps_set (i := 1) scKin.nd rfl (Or.inl rfl) (pe_op op_cat (pv 1) (pe_lst (pa_cons (pe_callB call_isX (by rfl) G.isi (by decide +kernel) (pa_cons (pv 0) (pa_cons (pe_glob (v := .ref (eDrawnOut.C K)) (by rfl) (M.f 39 eDrawnOut rfl (List.cons_ne_nil _ _)).mgC rfl) pa_nil))) (pa_cons (pe_callB call_isX (by rfl) G.isi (by decide +kernel) (pa_cons (pv 0) (pa_cons (pe_glob (v := .ref (eRing.C K)) (by rfl) (M.f 40 eRing rfl (List.cons_ne_nil _ _)).mgC rfl) pa_nil))) (pa_cons (pe_callB call_isX (by rfl) G.isi (by decide +kernel) (pa_cons (pv 0) (pa_cons (pe_glob (v := .ref (eLeans.C K)) (by rfl) (M.f 41 eLeans rfl (List.cons_ne_nil _ _)).mgC rfl) pa_nil))) pa_nil))))))
      (pss_cons (ps_set (i := 1) scKin.nd rfl (Or.inl rfl) (pe_op op_cat (pv 1) (pe_lst (pa_cons (pe_callB call_isX (by rfl) G.isi (by decide +kernel) (pa_cons (pv 0) (pa_cons (pe_glob (v := .ref (eNoWay.C K)) (by rfl) (M.f 42 eNoWay rfl (List.cons_ne_nil _ _)).mgC rfl) pa_nil))) (pa_cons (pe_callB call_isX (by rfl) G.isi (by decide +kernel) (pa_cons (pv 0) (pa_cons (pe_glob (v := .ref (eTooMany.C K)) (by rfl) (M.f 43 eTooMany rfl (List.cons_ne_nil _ _)).mgC rfl) pa_nil))) (pa_cons (pe_callB call_isX (by rfl) G.isi (by decide +kernel) (pa_cons (pv 0) (pa_cons (pe_glob (v := .ref (eBadText.C K)) (by rfl) (M.f 44 eBadText rfl (List.cons_ne_nil _ _)).mgC rfl) pa_nil))) pa_nil))))))
      (pss_cons (ps_set (i := 1) scKin.nd rfl (Or.inl rfl) (pe_op op_cat (pv 1) (pe_lst (pa_cons (pe_callB call_isX (by rfl) G.isi (by decide +kernel) (pa_cons (pv 0) (pa_cons (pe_glob (v := .ref (eBadLine.C K)) (by rfl) (M.f 45 eBadLine rfl (List.cons_ne_nil _ _)).mgC rfl) pa_nil))) (pa_cons (pe_callB call_isX (by rfl) G.isi (by decide +kernel) (pa_cons (pv 0) (pa_cons (pe_glob (v := .ref (eBelow.C K)) (by rfl) (M.f 46 eBelow rfl (List.cons_ne_nil _ _)).mgC rfl) pa_nil))) (pa_cons (pe_callB call_isX (by rfl) G.isi (by decide +kernel) (pa_cons (pv 0) (pa_cons (pe_glob (v := .ref (eObjects.C K)) (by rfl) (M.f 47 eObjects rfl (List.cons_ne_nil _ _)).mgC rfl) pa_nil))) pa_nil))))))
      (pss_cons (ps_set (i := 1) scKin.nd rfl (Or.inl rfl) (pe_op op_cat (pv 1) (pe_lst (pa_cons (pe_callB call_isX (by rfl) G.isi (by decide +kernel) (pa_cons (pv 0) (pa_cons (pe_glob (v := .ref (eAlone.C K)) (by rfl) M.alone.mgC rfl) pa_nil))) (pa_cons (pe_callB call_isX (by rfl) G.isi (by decide +kernel) (pa_cons (pv 0) (pa_cons (pe_glob (v := .ref (eNoDeed.C K)) (by rfl) M.noDeed.mgC rfl) pa_nil))) pa_nil)))))
      (pss_one (ps_ret (pv 1)))))))))))))))))))), ?_⟩
    refine vals_step (H0 := H) (vs := [.bl (bs 0), .bl (bs 1), .bl (bs 2)]) (.cons (isx_one rfl hx T (.own _) (hk 0 eBadRatio rfl)) (.cons (isx_one rfl hx T (.own _) (hk 1 eBadHandOver rfl)) (.cons (isx_one rfl hx T (.own _) (hk 2 eBadSwap rfl)) ArgS.nil))) (Same.refl H) (Nat.le_of_ble_eq_true rfl) fun p0 H0 s0 h0 => ?_
    refine vcat_stepN (H0 := H) (vs := [.bl (bs 3), .bl (bs 4), .bl (bs 5)]) (σ' := fun q => [some (.ref a), some (.ref q)]) (fun _ => rfl) rfl h0 (.cons (isx_one rfl hx T (.own _) (hk 3 eBadBounds rfl)) (.cons (isx_one rfl hx T (.own _) (hk 4 eBadLeanings rfl)) (.cons (isx_one rfl hx T (.own _) (hk 5 eBadDeal rfl)) ArgS.nil))) s0 (Nat.le_of_ble_eq_true rfl) fun p1 H1 t1 h1 => ?_
    have s1 := s0.trans t1
    refine vcat_stepN (H0 := H) (vs := [.bl (bs 6), .bl (bs 7), .bl (bs 8)]) (σ' := fun q => [some (.ref a), some (.ref q)]) (fun _ => rfl) rfl h1 (.cons (isx_one rfl hx T (.own _) (hk 6 eBadRow rfl)) (.cons (isx_one rfl hx T (.own _) (hk 7 eBadDone rfl)) (.cons (isx_one rfl hx T (.own _) (hk 8 eBadCounts rfl)) ArgS.nil))) s1 (Nat.le_of_ble_eq_true rfl) fun p2 H2 t2 h2 => ?_
    have s2 := s1.trans t2
    refine vcat_stepN (H0 := H) (vs := [.bl (bs 9), .bl (bs 10), .bl (bs 11)]) (σ' := fun q => [some (.ref a), some (.ref q)]) (fun _ => rfl) rfl h2 (.cons (isx_one rfl hx T (.own _) (hk 9 eBadDial rfl)) (.cons (isx_one rfl hx T (.own _) (hk 10 eBadWay rfl)) (.cons (isx_one rfl hx T (.own _) (hk 11 eBadKeeper rfl)) ArgS.nil))) s2 (Nat.le_of_ble_eq_true rfl) fun p3 H3 t3 h3 => ?_
    have s3 := s2.trans t3
    refine vcat_stepN (H0 := H) (vs := [.bl (bs 12), .bl (bs 13), .bl (bs 14)]) (σ' := fun q => [some (.ref a), some (.ref q)]) (fun _ => rfl) rfl h3 (.cons (isx_one rfl hx T (.own _) (hk 12 eBadKeepers rfl)) (.cons (isx_one rfl hx T (.own _) (hk 13 eBadLaid rfl)) (.cons (isx_one rfl hx T (.own _) (hk 14 eBadChoice rfl)) ArgS.nil))) s3 (Nat.le_of_ble_eq_true rfl) fun p4 H4 t4 h4 => ?_
    have s4 := s3.trans t4
    refine vcat_stepN (H0 := H) (vs := [.bl (bs 15), .bl (bs 16), .bl (bs 17)]) (σ' := fun q => [some (.ref a), some (.ref q)]) (fun _ => rfl) rfl h4 (.cons (isx_one rfl hx T (.own _) (hk 15 eBadBook rfl)) (.cons (isx_one rfl hx T (.own _) (hk 16 eBadStory rfl)) (.cons (isx_one rfl hx T (.own _) (hk 17 eBadShare rfl)) ArgS.nil))) s4 (Nat.le_of_ble_eq_true rfl) fun p5 H5 t5 h5 => ?_
    have s5 := s4.trans t5
    refine vcat_stepN (H0 := H) (vs := [.bl (bs 18), .bl (bs 19), .bl (bs 20)]) (σ' := fun q => [some (.ref a), some (.ref q)]) (fun _ => rfl) rfl h5 (.cons (isx_one rfl hx T (.own _) (hk 18 eBadPlay rfl)) (.cons (isx_one rfl hx T (.own _) (hk 19 eBadNumber rfl)) (.cons (isx_one rfl hx T (.own _) (hk 20 eBadPaper rfl)) ArgS.nil))) s5 (Nat.le_of_ble_eq_true rfl) fun p6 H6 t6 h6 => ?_
    have s6 := s5.trans t6
    refine vcat_stepN (H0 := H) (vs := [.bl (bs 21), .bl (bs 22), .bl (bs 23)]) (σ' := fun q => [some (.ref a), some (.ref q)]) (fun _ => rfl) rfl h6 (.cons (isx_one rfl hx T (.own _) (hk 21 eNoStranger rfl)) (.cons (isx_one rfl hx T (.own _) (hk 22 eNoKeeper rfl)) (.cons (isx_one rfl hx T (.own _) (hk 23 eLoser rfl)) ArgS.nil))) s6 (Nat.le_of_ble_eq_true rfl) fun p7 H7 t7 h7 => ?_
    have s7 := s6.trans t7
    refine vcat_stepN (H0 := H) (vs := [.bl (bs 24), .bl (bs 25), .bl (bs 26)]) (σ' := fun q => [some (.ref a), some (.ref q)]) (fun _ => rfl) rfl h7 (.cons (isx_one rfl hx T (.own _) (hk 24 eLeft rfl)) (.cons (isx_one rfl hx T (.own _) (hk 25 eNoHand rfl)) (.cons (isx_one rfl hx T (.own _) (hk 26 eNoRow rfl)) ArgS.nil))) s7 (Nat.le_of_ble_eq_true rfl) fun p8 H8 t8 h8 => ?_
    have s8 := s7.trans t8
    refine vcat_stepN (H0 := H) (vs := [.bl (bs 27), .bl (bs 28), .bl (bs 29)]) (σ' := fun q => [some (.ref a), some (.ref q)]) (fun _ => rfl) rfl h8 (.cons (isx_one rfl hx T (.own _) (hk 27 eNotEven rfl)) (.cons (isx_one rfl hx T (.own _) (hk 28 eTooNarrow rfl)) (.cons (isx_one rfl hx T (.own _) (hk 29 eBeyond rfl)) ArgS.nil))) s8 (Nat.le_of_ble_eq_true rfl) fun p9 H9 t9 h9 => ?_
    have s9 := s8.trans t9
    refine vcat_stepN (H0 := H) (vs := [.bl (bs 30), .bl (bs 31), .bl (bs 32)]) (σ' := fun q => [some (.ref a), some (.ref q)]) (fun _ => rfl) rfl h9 (.cons (isx_one rfl hx T (.own _) (hk 30 eDone rfl)) (.cons (isx_one rfl hx T (.own _) (hk 31 eBroken rfl)) (.cons (isx_one rfl hx T (.own _) (hk 32 eTwice rfl)) ArgS.nil))) s9 (Nat.le_of_ble_eq_true rfl) fun p10 H10 t10 h10 => ?_
    have s10 := s9.trans t10
    refine vcat_stepN (H0 := H) (vs := [.bl (bs 33), .bl (bs 34), .bl (bs 35)]) (σ' := fun q => [some (.ref a), some (.ref q)]) (fun _ => rfl) rfl h10 (.cons (isx_one rfl hx T (.own _) (hk 33 eUnlike rfl)) (.cons (isx_one rfl hx T (.own _) (hk 34 eNotGood rfl)) (.cons (isx_one rfl hx T (.own _) (hk 35 eNotTwo rfl)) ArgS.nil))) s10 (Nat.le_of_ble_eq_true rfl) fun p11 H11 t11 h11 => ?_
    have s11 := s10.trans t11
    refine vcat_stepN (H0 := H) (vs := [.bl (bs 36), .bl (bs 37), .bl (bs 38)]) (σ' := fun q => [some (.ref a), some (.ref q)]) (fun _ => rfl) rfl h11 (.cons (isx_one rfl hx T (.own _) (hk 36 eAhead rfl)) (.cons (isx_one rfl hx T (.own _) (hk 37 eNotCoprime rfl)) (.cons (isx_one rfl hx T (.own _) (hk 38 eObjected rfl)) ArgS.nil))) s11 (Nat.le_of_ble_eq_true rfl) fun p12 H12 t12 h12 => ?_
    have s12 := s11.trans t12
    refine vcat_stepN (H0 := H) (vs := [.bl (bs 39), .bl (bs 40), .bl (bs 41)]) (σ' := fun q => [some (.ref a), some (.ref q)]) (fun _ => rfl) rfl h12 (.cons (isx_one rfl hx T (.own _) (hk 39 eDrawnOut rfl)) (.cons (isx_one rfl hx T (.own _) (hk 40 eRing rfl)) (.cons (isx_one rfl hx T (.own _) (hk 41 eLeans rfl)) ArgS.nil))) s12 (Nat.le_of_ble_eq_true rfl) fun p13 H13 t13 h13 => ?_
    have s13 := s12.trans t13
    refine vcat_stepN (H0 := H) (vs := [.bl (bs 42), .bl (bs 43), .bl (bs 44)]) (σ' := fun q => [some (.ref a), some (.ref q)]) (fun _ => rfl) rfl h13 (.cons (isx_one rfl hx T (.own _) (hk 42 eNoWay rfl)) (.cons (isx_one rfl hx T (.own _) (hk 43 eTooMany rfl)) (.cons (isx_one rfl hx T (.own _) (hk 44 eBadText rfl)) ArgS.nil))) s13 (Nat.le_of_ble_eq_true rfl) fun p14 H14 t14 h14 => ?_
    have s14 := s13.trans t14
    refine vcat_stepN (H0 := H) (vs := [.bl (bs 45), .bl (bs 46), .bl (bs 47)]) (σ' := fun q => [some (.ref a), some (.ref q)]) (fun _ => rfl) rfl h14 (.cons (isx_one rfl hx T (.own _) (hk 45 eBadLine rfl)) (.cons (isx_one rfl hx T (.own _) (hk 46 eBelow rfl)) (.cons (isx_one rfl hx T (.own _) (hk 47 eObjects rfl)) ArgS.nil))) s14 (Nat.le_of_ble_eq_true rfl) fun p15 H15 t15 h15 => ?_
    have s15 := s14.trans t15
    refine vcat_stepN (H0 := H) (vs := [.bl (bs 48), .bl (bs 49)]) (σ' := fun q => [some (.ref a), some (.ref q)]) (fun _ => rfl) rfl h15 (.cons (isx_one rfl hx T (.own _) (hk 48 eAlone rfl)) (.cons (isx_one rfl hx T (.own _) (hk 49 eNoDeed rfl)) ArgS.nil)) s15 (Nat.le_of_ble_eq_true rfl) fun p16 H16 t16 h16 => ?_
    have s16 := s15.trans t16
    refine ⟨_, rfl, k p16 H16 s16 ?_⟩
    rw [kin_list bs]
    exact h16
end
end K0

namespace K0
open PySem PySem.Spec PyProof.Rows L2

/-- is it the class at place n -/
def same (n j : Nat) : Bool := decide (n = j)
def kinD (bs : Nat → Bool) : PyData := .list ((List.range 50).map fun j => .bool (bs j))
theorem kin_eqv {n : Nat} (hn : n < 50) : PyData.eqv (kinD (same n)) (kinD (same n)) = true ∧ SeqAt.shaped (kinD (same n)) = true := by
  have h : (List.range 50).all (fun n => PyData.eqv (kinD (same n)) (kinD (same n)) && SeqAt.shaped (kinD (same n))) = true := by decide +kernel
  have z := List.all_eq_true.mp h n (List.mem_range.mpr hn)
  exact Bool.and_eq_true_iff.mp z
theorem kin_dp {K : PySem.W.Frag} {H : Hp} {p : Addr} {bs : Nat → Bool} (h : H p = some (.lst ((List.range 50).map fun j => V.bl (bs j)))) : Dp K H (.ref p) (kinD bs) := by
  refine Dp.lst (SqL.of h) ?_
  generalize List.range 50 = l
  induction l with
  | nil => exact .nil
  | cons j l ih => exact .cons (.bl _) ih
/-- what isinstance says of an exception of the class at C, at place n of the law's list (50 and more: of none) -/
structure Kin (K : PySem.W.Frag) (C : Addr) (n : Nat) : Prop where
  kin : ∀ (j : Nat) (e : Ent), tab[j]? = some e → PySem.W.kitOne K (.ref C) (.ref (e.C K)) = some (same n j)
  last : PySem.W.kitOne K (.ref C) (.ref (He.ga K "LastError")) = some true
  ve : PySem.W.kitOne K (.ref C) (.type "ValueError") = some true
structure Kin2 (K : PySem.W.Frag) (C : Addr) (n : Nat) : Prop extends Kin K C n where
  mis : PySem.W.kitOne K (.ref C) (.ref (He.ga K "Missing")) = some (decide (21 ≤ n ∧ n < 23))
  le : PySem.W.kitOne K (.ref C) (.type "LookupError") = some false
  te : PySem.W.kitOne K (.ref C) (.type "TypeError") = some false
  ae : PySem.W.kitOne K (.ref C) (.type "ArithmeticError") = some false
  re : PySem.W.kitOne K (.ref C) (.type "RuntimeError") = some false
  at_ : PySem.W.kitOne K (.ref C) (.type "AttributeError") = some false
theorem chain_step {n i : Nat} {σ : L2.St} {H : Hp} {R : VK} (hσ : σ[i]? = some (some (.int n))) (k : R (.bl (decide (21 ≤ n ∧ n < 23))) H) :
    tChain (rI0 fun i j => .bl (decide (i ≤ j))) (rI0 fun i j => .bl (decide (i < j))) (tC (.int 21)) (tVar i) (tC (.int 23)) σ H R := by
  refine ⟨_, hσ, _, _, rfl, rfl, _, rfl, ?_⟩
  by_cases h21 : 21 ≤ n
  · rw [decide_eq_true (show (21 : Int) ≤ (n : Int) by omega)]
    refine iteT ⟨_, _, rfl, rfl, ?_⟩
    by_cases h23 : n < 23
    · rw [decide_eq_true ⟨h21, h23⟩] at k
      show R (.bl (decide ((n : Int) < 23))) H
      rw [decide_eq_true (show (n : Int) < 23 by omega)]
      exact k
    · rw [decide_eq_false (fun z => h23 z.2)] at k
      show R (.bl (decide ((n : Int) < 23))) H
      rw [decide_eq_false (show ¬ (n : Int) < 23 by omega)]
      exact k
  · rw [decide_eq_false (show ¬ (21 : Int) ≤ (n : Int) by omega)]
    refine iteF ?_
    rw [decide_eq_false (fun z => h21 z.1)] at k
    exact k
def spStands (K : PySem.W.Frag) : Sp := fun vs H Q _ => ∃ (a C : Addr) (n : Nat), vs = [.ref a, .int n] ∧ n < 50 ∧ ExA H a C ∧ XCls K C ∧ Kin2 K C n ∧ ∀ H', Same H H' → Q (.bl true) H'
section
variable {P : Program} {w : World} {K : PySem.W.Frag} {mg : Str → Option Value} {base : Heap} {f : Addr} {fd : FuncData}
theorem scStands : FnScope ["_law_error", "_law_place", "_law_at"] ["_law_error", "_law_place"] (defScope sStands) := ⟨rfl, rfl, rfl, by decide +kernel, rfl, by decide +kernel, by decide +kernel⟩
theorem ok_stands (G : Glob mg) (M : Mks P w K mg base) {f1 : Addr} {fd1 : FuncData} (m1 : mg "_law_kin" = some (.ref f1)) (k1 : PySem.W.keepIn K (.ref f1) = true) (F1 : DefAt K "_law_kin" "_law_kin" sKin f1 fd1)
    (F : DefAt K "_law_stands_right" "_law_stands_right" sStands f fd) : FnOk P w K mg base CX0 2 f fd ["_law_error", "_law_place"] (spStands K) := by
  refine okD F scStands (fun vs H Q E h => ?_) (fun cdv A outer s H vs Q E hr h => ?_)
  · obtain ⟨a, C, n, rfl, _⟩ := h
    rfl
  · obtain ⟨a, C, n, rfl, hn, hx, T, hk, k⟩ := h
    have b1 : Binds K fd1 ["_law_error"] [] := F1.bindsN fun _ _ _ _ _ _ us hl => match us, hl with | [_], _ => rfl
    have hu : (A.deeper (envOfC "_law_stands_right" (defScope sStands) s.heap.objs.size f cdv)).units + 64 < cLine := hr.units
    refine ⟨_, pss_cons (ps_if (pt_cmpR (op_neD hu) (pe_call (ok_kin G M F1) hr (by rfl) m1 k1 b1 .nil pass0 (pa_cons (pv 0) pa_nil))
        (pe_lc (own := [("_law_at", 2)]) (g := gName 2) (tt := tYes) rfl scStands.nd (pi_range1 (by rfl) G.range (pa_cons pe_int pa_nil)) (blkOk_by (N := ["_law_error", "_law_place", "_law_at"]) (sc := defScope sStands) (by decide +kernel))
          (fun _ _ _ _ _ => pg_name (i := 2) scStands.nd rfl (Or.inl rfl)) (fun _ _ _ _ _ => pts_nil) (fun _ _ _ _ _ => pe_cmpR op_eq (pv 1) (pv 2) (nomark _))) (nomark _)) (pss_one (ps_ret pe_bl)) pss_nil)
      (pss_cons (ps_if (PW.pt (pw_or (pt_not (pt_val (pe_callB call_isX (by rfl) G.isi (by decide +kernel) (pa_cons (pv 0) (pa_cons (pe_glob (v := .ref (He.ga K "LastError")) (by rfl) M.last.mgC rfl) pa_nil)))))
          (pw_or1 (pt_not (pt_val (pe_callB call_isX (by rfl) G.isi (by decide +kernel) (pa_cons (pv 0) (pa_cons (pe_bltn (by rfl) G.ve (by decide +kernel) (v := .ty "ValueError") rfl) pa_nil)))))))) (pss_one (ps_ret pe_bl)) pss_nil)
      (pss_cons (ps_if (pt_cmpR op_ne (pe_callB call_isX (by rfl) G.isi (by decide +kernel) (pa_cons (pv 0) (pa_cons (pe_glob (v := .ref (He.ga K "Missing")) (by rfl) M.m.mgC rfl) pa_nil))) (pe_chain op_le op_lt pe_int (pv 1) pe_int) (nomark _)) (pss_one (ps_ret pe_bl)) pss_nil)
      (pss_cons (ps_if (PW.pt (pw_or (pt_val (pe_callB call_isX (by rfl) G.isi (by decide +kernel) (pa_cons (pv 0) (pa_cons (pe_bltn (by rfl) G.le (by decide +kernel) (v := .ty "LookupError") rfl) pa_nil))))
          (pw_or (pt_val (pe_callB call_isX (by rfl) G.isi (by decide +kernel) (pa_cons (pv 0) (pa_cons (pe_bltn (by rfl) G.te (by decide +kernel) (v := .ty "TypeError") rfl) pa_nil))))
          (pw_or1 (pt_val (pe_callB call_isX (by rfl) G.isi (by decide +kernel) (pa_cons (pv 0) (pa_cons (pe_bltn (by rfl) G.ae (by decide +kernel) (v := .ty "ArithmeticError") rfl) pa_nil)))))))) (pss_one (ps_ret pe_bl)) pss_nil)
      (pss_one (ps_ret (pe_and (pe_not (pe_callB call_isX (by rfl) G.isi (by decide +kernel) (pa_cons (pv 0) (pa_cons (pe_bltn (by rfl) G.re (by decide +kernel) (v := .ty "RuntimeError") rfl) pa_nil))))
        (pe_one (pe_not (pe_callB call_isX (by rfl) G.isi (by decide +kernel) (pa_cons (pv 0) (pa_cons (pe_bltn (by rfl) G.at_ (by decide +kernel) (v := .ty "AttributeError") rfl) pa_nil))))))))))), ?_⟩
    refine ⟨_, rfl, a, C, same n, rfl, hx, T, hk.kin, fun p H1 s1 h1 => ?_⟩
    refine ⟨50, rfl, by decide, by decide, fun D hD => ?_⟩
    refine lc_range (lo := 0) (n := 50) (fun i H2 => Same H1 H2 ∧ H2 D = some (.lst ((List.range i).map fun j => V.bl (same n j)))) ⟨fun b o e => by rw [upd_ne (ne_of_none e hD)]; exact e, upd_same⟩ ?_ ?_
    · rintro i H2 hi ⟨s2, h2⟩
      refine ⟨rfl, ?_⟩
      show tOp rEq (tVar 1) (tVar 2) _ _ _
      refine ⟨_, rfl, _, rfl, rfl, _, h2, (by rw [List.length_map, List.length_range, sizeLine_eq]; omega), fun b o e => ?_, ?_⟩
      · rw [upd_ne (ne_of_none e hD)]
        exact s2 b o e
      · rw [upd_same, List.range_succ, List.map_append]
        have e2 : decide (V.int (n : Int) = V.int (0 + (i : Int))) = same n i := by
          unfold same
          by_cases h : n = i
          · rw [decide_eq_true h, decide_eq_true (by rw [h, Int.zero_add])]
          · rw [decide_eq_false h, decide_eq_false (fun z => h (by injection z with z; omega))]
        rw [e2]
        rfl
    · rintro H2 ⟨s2, h2⟩
      have s3 := s1.trans s2
      obtain ⟨q1, q2⟩ := kin_eqv hn
      refine ⟨_, _, kin_dp (s2 _ _ h1), kin_dp h2, q2, q2, false, by rw [q1]; rfl, iteF ?_⟩
      refine ⟨_, rfl, a, C, _, _, true, rfl, .own _, hx.same s3, T, hk.last, true, rfl, iteF ?_⟩
      refine ⟨_, rfl, a, C, _, _, true, rfl, .ty _, hx.same s3, T, hk.ve, true, rfl, iteF ?_⟩
      refine ⟨_, rfl, a, C, _, _, _, rfl, .own _, hx.same s3, T, hk.mis, chain_step rfl ⟨rfl, false, by rw [decide_eq_true rfl]; rfl, iteF ?_⟩⟩
      refine ⟨_, rfl, a, C, _, _, false, rfl, .ty _, hx.same s3, T, hk.le, false, rfl, iteF ?_⟩
      refine ⟨_, rfl, a, C, _, _, false, rfl, .ty _, hx.same s3, T, hk.te, false, rfl, iteF ?_⟩
      refine ⟨_, rfl, a, C, _, _, false, rfl, .ty _, hx.same s3, T, hk.ae, false, rfl, iteF ?_⟩
      refine ⟨_, rfl, a, C, _, _, false, rfl, .ty _, hx.same s3, T, hk.re, false, rfl, true, rfl, iteT ?_⟩
      exact ⟨_, rfl, a, C, _, _, false, rfl, .ty _, hx.same s3, T, hk.at_, false, rfl, k H2 s3⟩
end
end K0

namespace K0
open PySem PySem.Spec PyProof.Rows L2

/-! ### the values that go in: how they are shown, whether they are a Ratio -/
structure VOk (P : Program) (w : World) (K : PySem.W.Frag) (mg : Str → Option Value) (base : Heap) (CR : Addr) (k : Nat) (as : List Addr) (H : Hp) (v : V) (t : Str) (b : Bool) : Prop where
  rp : ∀ X : Cx, X.prog = P → X.w = w → X.K = K → X.mg = mg → X.base = base → RpU X k as H v t
  rt : ∀ X : Cx, X.prog = P → X.w = w → X.K = K → X.mg = mg → X.base = base → RpT X (k + 2) H v t
  ty : ∀ H', Same H H' → ∃ t', TyX K H' v t' ∧ PySem.W.kitOne K t' (.ref CR) = some b
  sz : t.length ≤ 100000
section
variable {P : Program} {w : World} {K : PySem.W.Frag} {mg : Str → Option Value} {base : Heap} {CR : Addr} {k : Nat} {as : List Addr} {H H' : Hp} {v : V} {t : Str} {b : Bool}
theorem VOk.later (h : VOk P w K mg base CR k as H v t b) (s : Same H H') : VOk P w K mg base CR k as H' v t b :=
  ⟨fun X a1 a2 a3 a4 a5 => (h.rp X a1 a2 a3 a4 a5).later s, fun X a1 a2 a3 a4 a5 => (h.rt X a1 a2 a3 a4 a5).later s, fun H2 s2 => h.ty H2 (s.trans s2), h.sz⟩
end
/-- three of them -/
structure V3 (P : Program) (w : World) (K : PySem.W.Frag) (mg : Str → Option Value) (base : Heap) (CR : Addr) (k : Nat) (as : List Addr) (H : Hp) (v1 v2 v3 : V) : Prop where
  ok : ∃ (t1 t2 t3 : Str) (b1 b2 b3 : Bool), VOk P w K mg base CR k as H v1 t1 b1 ∧ VOk P w K mg base CR k as H v2 t2 b2 ∧ VOk P w K mg base CR k as H v3 t3 b3
  there : ∀ b ∈ as, ∃ o, H b = some o
theorem V3.later {P : Program} {w : World} {K : PySem.W.Frag} {mg : Str → Option Value} {base : Heap} {CR : Addr} {k : Nat} {as : List Addr} {H H' : Hp} {v1 v2 v3 : V} (h : V3 P w K mg base CR k as H v1 v2 v3) (s : Same H H') : V3 P w K mg base CR k as H' v1 v2 v3 := by
  obtain ⟨⟨t1, t2, t3, b1, b2, b3, h1, h2, h3⟩, th⟩ := h
  refine ⟨⟨t1, t2, t3, b1, b2, b3, h1.later s, h2.later s, h3.later s⟩, fun b hb => ?_⟩
  obtain ⟨o, e⟩ := th b hb
  exact ⟨o, s _ _ e⟩
/-- how many fields the class at place n has -/
def dueN (n : Nat) : Nat := if n < 36 then 1 else if n < 46 then 2 else if n < 48 then 3 else 0
/-- the values due there -/
structure Due (P : Program) (w : World) (K : PySem.W.Frag) (mg : Str → Option Value) (base : Heap) (CR : Addr) (k : Nat) (as : List Addr) (H : Hp) (zs : List V) (ts : List Str) (bs : List Bool) : Prop where
  l1 : zs.length = ts.length
  l2 : zs.length = bs.length
  l3 : zs.length ≤ 3
  ok : ∀ (i : Nat) (v : V), zs[i]? = some v → ∃ t b, ts[i]? = some t ∧ bs[i]? = some b ∧ VOk P w K mg base CR k as H v t b
theorem listText_len : ∀ {ts : List Str}, ts.length ≤ 3 → (∀ t ∈ ts, t.length ≤ 100000) → (listText ts).length ≤ sizeLine := by
  have h : ∀ (ts : List Str) (k : Nat) (acc : Str), (∀ t ∈ ts, t.length ≤ 100000) → (textFrom k acc ts).length ≤ acc.length + ts.length * 100002 := by
    intro ts
    induction ts with
    | nil => intro k acc _; exact Nat.le_add_right _ _
    | cons t r ih =>
      intro k acc ht
      have h1 := ih (k + 1) (acc ++ (if k > 0 then ", " else "" : String) ++ t) fun u hu => ht u (.tail _ hu)
      have h2 : (Str.ofString (if k > 0 then ", " else "" : String)).length ≤ 2 := by
        split
        · decide +kernel
        · decide +kernel
      have h3 := ht t (.head _)
      rw [strLen_append, strLen_append] at h1
      show (textFrom (k + 1) (acc ++ (if k > 0 then ", " else "" : String) ++ t) r).length ≤ acc.length + (r.length + 1) * 100002
      omega
  intro ts hl ht
  have a := h ts 0 "[" ht
  have e1 : (Str.ofString "[").length = 1 := by decide +kernel
  have e2 : (Str.ofString "]").length = 1 := by decide +kernel
  unfold listText
  rw [strLen_append, e2, sizeLine_eq]
  rw [e1] at a
  omega
section
variable {P : Program} {w : World} {K : PySem.W.Frag} {mg : Str → Option Value} {base : Heap} {CR : Addr} {k : Nat} {as : List Addr} {H H' : Hp} {zs : List V} {ts : List Str} {bs : List Bool} {v1 v2 v3 : V}
theorem V3.due (h : V3 P w K mg base CR k as H v1 v2 v3) (m : Nat) : ∃ ts bs, Due P w K mg base CR k as H ([v1, v2, v3].take m) ts bs := by
  obtain ⟨⟨t1, t2, t3, b1, b2, b3, h1, h2, h3⟩, th⟩ := h
  refine ⟨[t1, t2, t3].take m, [b1, b2, b3].take m, by simp, by simp, by simp [List.length_take]; omega, fun i v e => ?_⟩
  have e' := e
  rw [List.getElem?_take] at e'
  by_cases hi : i < m
  · rw [if_pos hi] at e'
    simp only [List.getElem?_take, if_pos hi]
    match i, e' with
    | 0, e' => simp at e'; subst e'; exact ⟨t1, b1, rfl, rfl, h1⟩
    | 1, e' => simp at e'; subst e'; exact ⟨t2, b2, rfl, rfl, h2⟩
    | 2, e' => simp at e'; subst e'; exact ⟨t3, b3, rfl, rfl, h3⟩
    | j + 3, e' => simp at e'
  · rw [if_neg hi] at e'
    cases e'
theorem Due.later (h : Due P w K mg base CR k as H zs ts bs) (s : Same H H') : Due P w K mg base CR k as H' zs ts bs :=
  ⟨h.l1, h.l2, h.l3, fun i v e => by
    obtain ⟨t, b, e1, e2, o⟩ := h.ok i v e
    exact ⟨t, b, e1, e2, o.later s⟩⟩
/-- repr of a list of them -/
theorem Due.rp (h : Due P w K mg base CR k as H zs ts bs) : ∃ t : Str, t.length ≤ sizeLine ∧ ∀ (X : Cx) (q : Addr) (H' : Hp), X.prog = P → X.w = w → X.K = K → X.mg = mg → X.base = base → Same H H' → H' q = some (.lst zs) → q ∉ as → ∃ k', k' ≤ k + 2 ∧ RpT X k' H' (.ref q) t := by
  obtain ⟨l1, l2, l3, ok⟩ := h
  cases zs with
  | nil => exact ⟨"[]", by rw [sizeLine_eq]; decide, fun X q H' _ _ _ _ _ _ hq _ => ⟨0, by omega, .nilL hq⟩⟩
  | cons x r =>
    cases ts with
    | nil => simp at l1
    | cons t ts =>
      refine ⟨listText (t :: ts), ?_, fun X q H' a1 a2 a3 a4 a5 s hq hn => ⟨k + 2, by omega, RpT.lst hn hq ⟨l1.symm, fun i v e => ?_⟩⟩⟩
      · refine listText_len (by omega) fun u hu => ?_
        obtain ⟨i, hi, e⟩ := List.getElem_of_mem hu
        have hi' : i < (x :: r).length := by omega
        obtain ⟨t', b, e1, _, o⟩ := ok i (x :: r)[i] (List.getElem?_eq_getElem hi')
        rw [List.getElem?_eq_getElem hi] at e1
        have e2 := Option.some.inj e1
        rw [← e, e2]
        exact o.sz
      · obtain ⟨t', b, e1, _, o⟩ := ok i v e
        exact ⟨t', e1, (o.rp X a1 a2 a3 a4 a5).later s⟩
end
theorem eqvB : ∀ l : List Bool, PyData.eqvAll (l.map .bool) (l.map .bool) = true
  | [] => rfl
  | b :: l => by
    show (PyData.eqv (.bool b) (.bool b) && PyData.eqvAll (l.map .bool) (l.map .bool)) = true
    rw [eqvB l, Bool.and_true]
    show (b == b) = true
    simp
theorem bl_dp {K : PySem.W.Frag} {H : Hp} {p : Addr} {l : List Bool} (h : H p = some (.lst (l.map V.bl))) : Dp K H (.ref p) (.list (l.map .bool)) := by
  refine Dp.lst (SqL.of h) ?_
  clear h
  induction l with
  | nil => exact .nil
  | cons j l ih => exact .cons (.bl _) ih
theorem shapedB : ∀ {l : List Bool}, l.length ≤ 3 → SeqAt.shaped (.list (l.map .bool)) = true
  | [], _ => by decide +kernel
  | [a], _ => by cases a <;> decide +kernel
  | [a, b], _ => by cases a <;> cases b <;> decide +kernel
  | [a, b, c], _ => by cases a <;> cases b <;> cases c <;> decide +kernel
  | _ :: _ :: _ :: _ :: _, h => by simp at h
/-- what is known of the classes -/
structure ClsOk (K : PySem.W.Frag) (e : Ent) : Prop where
  x : XCls K (e.C K)
  nf : ∀ f ∈ e.fl, PySem.W.findIn K (.ref (e.C K)) f = some none
theorem tab_fl : ∀ {n : Nat} {e : Ent}, n < 50 → tab[n]? = some e → e.fl.length = dueN n ∧ e.fl.Nodup := by
  have h : (List.range 50).all (fun n => (tab[n]?.map fun e => (e.fl.length == dueN n) && decide e.fl.Nodup) == some true) = true := by decide +kernel
  intro n e hn he
  have z := List.all_eq_true.mp h n (List.mem_range.mpr hn)
  rw [he] at z
  have z' := Option.some.inj (eq_of_beq z)
  rw [Bool.and_eq_true] at z'
  exact ⟨eq_of_beq z'.1, of_decide_eq_true z'.2⟩
theorem look_rev : ∀ {fl : List Str} {vs : List V} {f : Str} {v : V}, fl.Nodup → fl.length ≤ 3 → fl.length ≤ vs.length → (fl.zip (vs.take fl.length)).lookup f = some v → f ∈ fl ∧ (fl.zip vs).reverse.lookup f = some v
  | [], _, _, _, _, _, _, h => by simp at h
  | [a], v1 :: vs, f, v, _, _, _, h => by
    simp only [List.length_cons, List.length_nil, List.take_succ_cons, List.take_zero, List.zip_cons_cons, List.zip_nil_left, List.zip_nil_right, List.reverse_cons, List.reverse_nil, List.nil_append] at h ⊢
    refine ⟨?_, h⟩
    by_cases e : f = a
    · simp [e]
    · simp [List.lookup, beq_eq_false_iff_ne.mpr e] at h
  | [a, b], v1 :: v2 :: vs, f, v, nd, _, _, h => by
    have hab : a ≠ b := by simp at nd; exact nd
    simp only [List.length_cons, List.length_nil, List.take_succ_cons, List.take_zero, List.zip_cons_cons, List.zip_nil_left, List.zip_nil_right, List.reverse_cons, List.reverse_nil, List.nil_append, List.cons_append] at h ⊢
    by_cases ea : f = a
    · subst ea
      simp [List.lookup, hab, beq_eq_false_iff_ne.mpr hab] at h ⊢
      exact h
    · by_cases eb : f = b
      · subst eb
        simp [List.lookup, beq_eq_false_iff_ne.mpr ea] at h ⊢
        exact h
      · simp [List.lookup, beq_eq_false_iff_ne.mpr ea, beq_eq_false_iff_ne.mpr eb] at h
  | [a, b, c], v1 :: v2 :: v3 :: vs, f, v, nd, _, _, h => by
    have hd : (a ≠ b ∧ a ≠ c) ∧ b ≠ c := by simp at nd; exact nd
    simp only [List.length_cons, List.length_nil, List.take_succ_cons, List.take_zero, List.zip_cons_cons, List.zip_nil_left, List.zip_nil_right, List.reverse_cons, List.reverse_nil, List.nil_append, List.cons_append] at h ⊢
    by_cases ea : f = a
    · subst ea
      simp [List.lookup, beq_eq_false_iff_ne.mpr hd.1.1, beq_eq_false_iff_ne.mpr hd.1.2] at h ⊢
      exact h
    · by_cases eb : f = b
      · subst eb
        simp [List.lookup, beq_eq_false_iff_ne.mpr ea, beq_eq_false_iff_ne.mpr hd.2] at h ⊢
        exact h
      · by_cases ec : f = c
        · subst ec
          simp [List.lookup, beq_eq_false_iff_ne.mpr ea, beq_eq_false_iff_ne.mpr eb] at h ⊢
          exact h
        · simp [List.lookup, beq_eq_false_iff_ne.mpr ea, beq_eq_false_iff_ne.mpr eb, beq_eq_false_iff_ne.mpr ec] at h
  | _ :: _ :: _ :: _ :: _, _, _, _, _, l, _, _ => by simp at l
  | [_], [], _, _, _, _, l, _ => by simp at l
  | [_, _], [], _, _, _, _, l, _ => by simp at l
  | [_, _], [_], _, _, _, _, l, _ => by simp at l
  | [_, _, _], [], _, _, _, _, l, _ => by simp at l
  | [_, _, _], [_], _, _, _, _, l, _ => by simp at l
  | [_, _, _], [_, _], _, _, _, _, l, _ => by simp at l
/-- the fields of the exception at place n -/
theorem row_has {K : PySem.W.Frag} {H : Hp} {a : Addr} {n : Nat} {e : Ent} {v1 v2 v3 : V} (hn : n < 50) (he : tab[n]? = some e) (o : ClsOk K e) (hx : ExE H a (e.C K) (e.fl.zip [v1, v2, v3]).reverse) :
    ∀ f v, (e.fl.zip ([v1, v2, v3].take (dueN n))).lookup f = some v → HasF K H a (e.C K) f v := by
  intro f v h
  obtain ⟨l, nd⟩ := tab_fl hn he
  have l3 : e.fl.length ≤ 3 := by rw [l]; unfold dueN; split; omega; split; omega; split <;> omega
  rw [← l] at h
  obtain ⟨m, h2⟩ := look_rev (vs := [v1, v2, v3]) nd l3 l3 h
  refine ⟨_, hx.ex (fun z => ?_), o.x.f, o.nf f m, h2⟩
  rw [z] at h2
  simp at h2
end K0

namespace K0
open PySem PySem.Spec PyProof.Rows L2

def spAll (P : Program) (w : World) (K : PySem.W.Frag) (mg : Str → Option Value) (base : Heap) (CR : Addr) : Sp := fun vs H Q _ => ∃ (pv pm : Addr) (v1 v2 v3 : V) (as : List Addr) (ms : List Addr), vs = [.ref pv, .ref pm] ∧
  H pv = some (.lst [v1, v2, v3]) ∧ H pm = some (.lst (ms.map V.ref)) ∧ Rows H ms (tab.map (row K v1 v2 v3)) ∧ V3 P w K mg base CR 20 as H v1 v2 v3 ∧ pv ∉ as ∧ ∀ H', Same H H' → Q (.bl true) H'
theorem upd_sameS {H : Hp} {p : Addr} {o : HO} (h : H p = none) : Same H (upd H p o) := fun b u e => by rw [upd_ne (ne_of_none e h)]; exact e
/-- e1 if x < m else e2, .. -/
theorem lt_if {n m : Nat} {i : Nat} {σ : L2.St} {H : Hp} {Q : VK} {t u : TE} (hσ : σ[i]? = some (some (.int n))) (h1 : n < m → t σ H Q) (h2 : ¬ n < m → u σ H Q) :
    tIf (tTest (tOp (rI0 fun i j => .bl (decide (i < j))) (tVar i) (tC (.int m)))) t u σ H Q := by
  refine ⟨_, hσ, _, _, rfl, rfl, _, rfl, ?_⟩
  by_cases h : n < m
  · have h' : (n : Int) < (m : Int) := by omega
    rw [decide_eq_true h']
    exact iteT (h1 h)
  · have h' : ¬ (n : Int) < (m : Int) := by omega
    rw [decide_eq_false h']
    exact iteF (h2 h)
/-- the list of what is a Ratio, of a list of such values -/
theorem isi_lc {P : Program} {w : World} {K : PySem.W.Frag} {mg : Str → Option Value} {base : Heap} {CR : Addr} {k : Nat} {as : List Addr} {H1 : Hp} {zs : List V} {ts : List Str} {bs : List Bool} {q D : Addr} {j : Nat} {σ : L2.St} {Qd : Hp → Prop}
    (d : Due P w K mg base CR k as H1 zs ts bs) (hq : H1 q = some (.lst zs)) (hD : H1 D = none) (hj : j < σ.length)
    (hd : ∀ H2, Same H1 H2 → H2 D = some (.lst (bs.map V.bl)) → Qd H2) :
    ∃ W : Nat → Nat → Hp → Prop, (∃ m, W 0 m (upd H1 D (.lst []))) ∧ ∀ i m H, W i m H →
      ((Itl K q).stop i H ∧ Qd H) ∨ ((Itl K q).go i H ∧ ∃ Nx : Hp → Prop, (∀ H', Nx H' → ∃ m', m' < m ∧ W (i + 1) m' H') ∧ ∀ x H', (Itl K q).yld i H x H' → gName j x (wipe σ [j]) H' fun σ2 H2 => wipe σ2 [j] = wipe σ [j] ∧ tYes σ2 H2 fun b H3 =>
        if b = true then tCB (rIsi K) (tCons (tVar j) (tCons (tC (.ref CR)) tNil)) σ2 H3 fun y H4 => ∃ acc, H4 D = some (.lst acc) ∧ acc.length < sizeLine ∧ Nx (upd H4 D (.lst (acc ++ [y]))) else Nx H3) := by
  refine lc_list (K := K) (a := q) (xs := zs) (fun i H2 => Same H1 H2 ∧ H2 D = some (.lst ((bs.take i).map V.bl))) ⟨upd_sameS hD, by simpa using upd_same⟩ (fun i H2 _ h => SqL.of (h.1 _ _ hq)) ?_ ?_
  · rintro i x H2 hx ⟨s2, h2⟩
    obtain ⟨t, b, e1, e2, o⟩ := d.ok i x hx
    obtain ⟨t', ty, kk⟩ := o.ty H2 s2
    refine ⟨?_, ?_⟩
    · show ((σ.set j none).set j (some x)).set j none = σ.set j none
      rw [List.set_set, List.set_set]
    unfold tYes
    refine iteT ?_
    refine ⟨x, ?_, x, _, t', _, b, rfl, .own _, ty, kk, _, h2, ?_, fun c o e => ?_, ?_⟩
    · show ((σ.set j none).set j (some x))[j]? = some (some x)
      rw [List.getElem?_set_self (by simpa using hj)]
    · have := d.l3
      have := d.l2
      rw [List.length_map, List.length_take, sizeLine_eq]
      omega
    · rw [upd_ne (ne_of_none e hD)]
      exact s2 c o e
    · rw [upd_same, List.take_succ, e2]
      simp
  · rintro H2 ⟨s2, h2⟩
    refine hd H2 s2 ?_
    rw [h2, d.l2, List.take_length]
/-- values[:1] if place < 36 else values[:2] if place < 46 else values if place < 48 else [] -/
theorem due_te {K : PySem.W.Frag} {σ : L2.St} {H : Hp} {Q : VK} {v1 v2 v3 : V} {av : Addr} {as : List Addr} {n : Nat} (h2 : σ[2]? = some (some (.int n))) (h0 : σ[0]? = some (some (.ref av))) (hv : H av = some (.lst [v1, v2, v3])) (hpv : av ∉ as) (fr : ∀ p, H p = none → p ∉ as)
    (k : ∀ p H', Same H H' → H' p = some (.lst ([v1, v2, v3].take (dueN n))) → p ∉ as → Q (.ref p) H') :
    tIf (tTest (tOp (rI0 fun i j => .bl (decide (i < j))) (tVar 2) (tC (.int 36)))) (tSl (rSlL K) (tVar 0) tNoPart (tPart (tC (.int 1))))
      (tIf (tTest (tOp (rI0 fun i j => .bl (decide (i < j))) (tVar 2) (tC (.int 46)))) (tSl (rSlL K) (tVar 0) tNoPart (tPart (tC (.int 2))))
        (tIf (tTest (tOp (rI0 fun i j => .bl (decide (i < j))) (tVar 2) (tC (.int 48)))) (tVar 0) (tLst tNil))) σ H Q := by
  refine lt_if (m := 36) h2 (fun a1 => ?_) fun a1 => ?_
  · refine ⟨_, h0, 1, rfl, av, _, rfl, SqL.of hv, fun p hp => k p _ (upd_sameS hp) ?_ (fr p hp)⟩
    rw [upd_same, show dueN n = 1 from if_pos a1]
    rfl
  refine lt_if (m := 46) h2 (fun a2 => ?_) fun a2 => ?_
  · refine ⟨_, h0, 2, rfl, av, _, rfl, SqL.of hv, fun p hp => k p _ (upd_sameS hp) ?_ (fr p hp)⟩
    rw [upd_same, show dueN n = 2 by unfold dueN; rw [if_neg a1, if_pos a2]]
    rfl
  refine lt_if (m := 48) h2 (fun a3 => ?_) fun a3 => ?_
  · refine ⟨_, h0, k av H (Same.refl H) ?_ hpv⟩
    rw [hv, show dueN n = 3 by unfold dueN; rw [if_neg a1, if_neg a2, if_pos a3]]
    rfl
  · refine ⟨by show 0 ≤ sizeLine; exact Nat.zero_le _, fun p hp => k p _ (upd_sameS hp) ?_ (fr p hp)⟩
    rw [upd_same, show dueN n = 0 by unfold dueN; rw [if_neg a1, if_neg a2, if_neg a3]]
    rfl
section
variable {P : Program} {w : World} {K : PySem.W.Frag} {mg : Str → Option Value} {base : Heap} {f : Addr} {fd : FuncData} {CR : Addr}
theorem scAll : FnScope ["_law_values", "_law_made", "_law_place", "_law_error", "_law_due", "_law_told", "_law_field", "_law_value"] ["_law_values", "_law_made"] (defScope sAll) := ⟨rfl, rfl, rfl, by decide +kernel, rfl, by decide +kernel, by decide +kernel⟩
/-- the names, the two defs that it calls -/
structure AllIn (P : Program) (w : World) (K : PySem.W.Frag) (mg : Str → Option Value) (base : Heap) (CR : Addr) : Prop where
  G : Glob mg
  mR : mg "Ratio" = some (.ref CR)
  fF : ∃ f fd, mg "_law_fields" = some (.ref f) ∧ PySem.W.keepIn K (.ref f) = true ∧ FnOk P w K mg base CX0 2 f fd ["_law_error", "_law_place"] (spFields K) ∧ Binds K fd ["_law_error", "_law_place"] []
  fS : ∃ f fd, mg "_law_stands_right" = some (.ref f) ∧ PySem.W.keepIn K (.ref f) = true ∧ FnOk P w K mg base CX0 2 f fd ["_law_error", "_law_place"] (spStands K) ∧ Binds K fd ["_law_error", "_law_place"] []
  cls : ∀ (n : Nat) (e : Ent), tab[n]? = some e → ClsOk K e ∧ Kin2 K (e.C K) n
theorem ok_all (I : AllIn P w K mg base CR) (F : DefAt K "_law_all_right" "_law_all_right" sAll f fd) : FnG P w K mg base 23 f fd ["_law_values", "_law_made"] (spAll P w K mg base CR) := by
  refine okG F scAll (fun vs H Q E h => ?_) (fun cdv A outer s H vs Q hg hr h => ?_)
  · obtain ⟨av, pm, v1, v2, v3, as, ms, rfl, _⟩ := h
    rfl
  · obtain ⟨av, pm, v1, v2, v3, as, ms, rfl, hv, hm, hrw, h3, hpv, k⟩ := h
    obtain ⟨G, mR, ⟨fF, fdF, mF, kF, okF, bF⟩, ⟨fS, fdS, mS, kS, okS, bS⟩, cls⟩ := I
    have hu : (A.deeper (envOfC "_law_all_right" (defScope sAll) s.heap.objs.size f cdv)).units + 64 < cLine := hr.units
    refine ⟨_, pss_cons (ps_for PassesOwn.never rfl (pi_enum (by rfl) G.enum (pa_cons (pv 1) pa_nil)) (pg_tup rfl (pgs_cons (pg_name (i := 2) scAll.nd rfl (Or.inl rfl)) (pgs_cons (pg_name (i := 3) scAll.nd rfl (Or.inl rfl)) pgs_nil)))
        (pss_cons (ps_set (i := 4) scAll.nd rfl (Or.inl rfl) (pe_ifExp (pt_cmpR op_lt (pv 2) pe_int (nomark _)) (pe_slice sl_list (pv 0) po_none (po_some pe_int))
          (pe_ifExp (pt_cmpR op_lt (pv 2) pe_int (nomark _)) (pe_slice sl_list (pv 0) po_none (po_some pe_int)) (pe_ifExp (pt_cmpR op_lt (pv 2) pe_int (nomark _)) (pv 0) (pe_lst pa_nil)))))
        (pss_cons (ps_set (i := 5) scAll.nd rfl (Or.inl rfl) (pe_call okF (hr.mono (by omega)) (by rfl) mF kF bF .nil pass0 (pa_cons (pv 3) (pa_cons (pv 2) pa_nil))))
        (pss_cons (ps_if (PW.pt (pw_or (pt_cmpR op_ne (pe_callB (call_reprX hg) (by rfl) G.repr (by decide +kernel) (pa_cons (pv 5) pa_nil)) (pe_callB (call_reprX hg) (by rfl) G.repr (by decide +kernel) (pa_cons (pv 4) pa_nil)) (nomark _))
          (pw_or1 (pt_not (pt_val (pe_call okS (hr.mono (by omega)) (by rfl) mS kS bS .nil pass0 (pa_cons (pv 3) (pa_cons (pv 2) pa_nil)))))))) (pss_one (ps_ret pe_bl)) pss_nil)
        (pss_one (ps_if (pt_cmpR (op_neD hu)
          (pe_lc (own := [("_law_field", 6)]) (g := gName 6) (tt := tYes) rfl scAll.nd (pi_list (pv 5)) (blkOk_by (N := ["_law_values", "_law_made", "_law_place", "_law_error", "_law_due", "_law_told", "_law_field", "_law_value"]) (sc := defScope sAll) (by decide +kernel))
            (fun _ _ _ _ _ => pg_name (i := 6) scAll.nd rfl (Or.inl rfl)) (fun _ _ _ _ _ => pts_nil) (fun _ _ _ _ _ => pe_callB (id := "isinstance") (r := rIsi K) call_isi (by rfl) G.isi (by decide +kernel) (pa_cons (pv 6) (pa_cons (pe_glob (v := .ref CR) (by rfl) mR rfl) pa_nil))))
          (pe_lc (own := [("_law_value", 7)]) (g := gName 7) (tt := tYes) rfl scAll.nd (pi_list (pv 4)) (blkOk_by (N := ["_law_values", "_law_made", "_law_place", "_law_error", "_law_due", "_law_told", "_law_field", "_law_value"]) (sc := defScope sAll) (by decide +kernel))
            (fun _ _ _ _ _ => pg_name (i := 7) scAll.nd rfl (Or.inl rfl)) (fun _ _ _ _ _ => pts_nil) (fun _ _ _ _ _ => pe_callB (id := "isinstance") (r := rIsi K) call_isi (by rfl) G.isi (by decide +kernel) (pa_cons (pv 7) (pa_cons (pe_glob (v := .ref CR) (by rfl) mR rfl) pa_nil)))) (nomark _)) (pss_one (ps_ret pe_bl)) pss_nil))))))
      (pss_one (ps_ret (pe_cmpR op_eq (pe_callB call_len_seq (by rfl) G.len (by decide +kernel) (pa_cons (pv 1) pa_nil)) pe_int (nomark _)))), ?_⟩
    have hml : ms.length = 50 := by rw [hrw.len, List.length_map]; rfl
    refine ⟨_, rfl, pm, _, rfl, SqL.of hm, ?_⟩
    refine for_it (walk_enum (K := K) (a := pm) (xs := ms.map V.ref)) (fun i σ H2 => Same H H2 ∧ ∃ x2 x3 x4 x5, σ = [some (.ref av), some (.ref pm), x2, x3, x4, x5, none, none]) ⟨Same.refl H, none, none, none, none, rfl⟩ (fun i σ H2 _ h => SqL.of (h.1 _ _ hm)) ?_ ?_
    · rintro n x σ H2 H3 hi ⟨s2, x2, x3, x4, x5, rfl⟩ y
      obtain ⟨T, y1, y2, rfl, hT, rfl, e1, e2⟩ := y
      obtain rfl := Option.some.inj e1
      have hn : n < 50 := by rw [List.length_map, hml] at hi; exact hi
      obtain ⟨a, ha, rfl⟩ : ∃ a, ms[n]? = some a ∧ V.ref a = y2 := by
        have e2 : (ms.map V.ref)[n]? = some y2 := e2
        rw [List.getElem?_map] at e2
        obtain ⟨a, h1, h2⟩ := Option.map_eq_some_iff.mp e2
        exact ⟨a, h1, h2⟩
      have hn' : n < tab.length := hn
      have he : tab[n]? = some tab[n] := List.getElem?_eq_getElem hn'
      generalize tab[n] = e at he
      obtain ⟨a', ha', hx0⟩ := Rows.get hrw (i := n) (r := row K v1 v2 v3 e) (by rw [List.getElem?_map, he]; rfl)
      obtain rfl : a = a' := by rw [ha] at ha'; exact Option.some.inj ha'
      have s3 : Same H (upd H2 T (.tup [.int n, .ref a])) := s2.trans (upd_sameS hT)
      generalize hH3 : upd H2 T (.tup [.int n, .ref a]) = H3 at s3
      have hT3 : H3 T = some (.tup [.int n, .ref a]) := by rw [← hH3]; exact upd_same
      obtain ⟨co, kk⟩ := cls n e he
      refine ⟨T, _, rfl, SqT.of hT3, rfl, _, _, rfl, _, _, rfl, rfl, ?_⟩
      show tSeq _ _ _ [some (.ref av), some (.ref pm), some (.int n), some (.ref a), x4, x5, none, none] H3
      have fr : ∀ {H4 : Hp} {p : Addr}, Same H H4 → H4 p = none → p ∉ as := fun s4 hp hin => by
        obtain ⟨o, ho⟩ := h3.there _ hin
        rw [s4 _ _ ho] at hp
        cases hp
      refine due_te rfl rfl (s3 _ _ hv) hpv (fun p hp => fr s3 hp) fun pd H4 s4 hd hdn => ?_
      have s4' := s3.trans s4
      -- what it tells
      refine ⟨_, rfl, _, rfl, a, e.C K, [v1, v2, v3].take (dueN n), n, e, rfl, hn, he, ?_, row_has hn he co (hx0.same s4'), fun q H5 s5 hqf hq => ?_⟩
      · rw [(tab_fl hn he).1, List.length_take]
        have : dueN n ≤ 3 := by unfold dueN; split; omega; split; omega; split <;> omega
        show min (dueN n) 3 = dueN n
        omega
      have s5' := s4'.trans s5
      have hqn : q ∉ as := fr s4' hqf
      obtain ⟨ts, bs, d⟩ := h3.due (dueN n)
      obtain ⟨t, hz, rp⟩ := d.rp
      obtain ⟨k1, hk1, r1⟩ := rp (cxOf CX0 P w K mg base ["_law_values", "_law_made", "_law_place", "_law_error", "_law_due", "_law_told", "_law_field", "_law_value"] "_law_all_right" (defScope sAll) f cdv A outer s H E0).nox q H5 rfl rfl rfl rfl rfl s5' hq hqn
      refine ⟨_, rfl, _, k1, t, rfl, r1, hr.mono hk1, hz, fun H6 s6 => ?_⟩
      have s6' := s5'.trans s6
      have hd6 : H6 pd = some (.lst ([v1, v2, v3].take (dueN n))) := s6 _ _ (s5 _ _ hd)
      obtain ⟨k2, hk2, r2⟩ := rp (cxOf CX0 P w K mg base ["_law_values", "_law_made", "_law_place", "_law_error", "_law_due", "_law_told", "_law_field", "_law_value"] "_law_all_right" (defScope sAll) f cdv A outer s H E0).nox pd H6 rfl rfl rfl rfl rfl s6' hd6 hdn
      refine ⟨_, rfl, _, k2, t, rfl, r2, hr.mono hk2, hz, fun H7 s7 => ?_⟩
      have s7' := s6'.trans s7
      refine ⟨rfl, false, by rw [decide_eq_true rfl]; rfl, iteF ?_⟩
      refine ⟨_, rfl, _, rfl, a, e.C K, n, rfl, hn, (hx0.same s7').exA, co.x, kk, fun H8 s8 => ⟨true, rfl, iteF ?_⟩⟩
      have s8' := s7'.trans s8
      refine ⟨_, rfl, q, rfl, ⟨_, SqL.of (s8 _ _ (s7 _ _ (s6 _ _ hq)))⟩, fun D hD => isi_lc (d.later s8') (s8 _ _ (s7 _ _ (s6 _ _ hq))) hD (Nat.le_of_ble_eq_true rfl) fun H9 s9 h9 => ?_⟩
      have s9' := s8'.trans s9
      have hd9 : H9 pd = some (.lst ([v1, v2, v3].take (dueN n))) := s9 _ _ (s8 _ _ (s7 _ _ hd6))
      refine ⟨_, rfl, pd, rfl, ⟨_, SqL.of hd9⟩, fun D2 hD2 => isi_lc (d.later s9') hd9 hD2 (Nat.le_of_ble_eq_true rfl) fun H10 s10 h10 => ?_⟩
      have lb : bs.length ≤ 3 := by have := d.l2; have := d.l3; omega
      refine ⟨_, _, bl_dp (s10 _ _ h9), bl_dp h10, shapedB lb, shapedB lb, false, ?_, iteF ?_⟩
      · show V.bl (!PyData.eqvAll (bs.map .bool) (bs.map .bool)) = V.bl false
        rw [eqvB]
        rfl
      · exact ⟨s9'.trans s10, _, _, _, _, rfl⟩
    · rintro σ H2 ⟨s2, x2, x3, x4, x5, rfl⟩
      refine ⟨_, rfl, pm, _, rfl, .inl (SqL.of (s2 _ _ hm)), rfl, ?_⟩
      rw [List.length_map, hml]
      exact k H2 s2
end
end K0

/-! The twelve kinds of values that are drawn. -/
namespace K0
open PySem PySem.Spec PyProof.Rows L2

/-- what the class Ratio is asked for -/
structure RatC (P : Program) (w : World) (K : PySem.W.Frag) (mg : Str → Option Value) (base : Heap) (CR : Addr) : Prop where
  cl : Cls K CR
  ha : PySem.W.findIn K (.ref CR) "__class__" = some (some (.builtin "object.__class__"))
  hn : PySem.W.specialIn K (.builtin "object.__class__") "__get__" = some (some (.builtin "getset_descriptor.__get__"))
  htk : PySem.W.takesIn K (.builtin "object.__class__") = some true
  hm : PySem.W.mroIn K CR (.type "object") = some true
  kN : PySem.W.kitOne K (.type "NoneType") (.ref CR) = some false
  kB : PySem.W.kitOne K (.type "bool") (.ref CR) = some false
  kI : PySem.W.kitOne K (.type "int") (.ref CR) = some false
  kS : PySem.W.kitOne K (.type "str") (.ref CR) = some false
  kT : PySem.W.kitOne K (.type "tuple") (.ref CR) = some false
  kL : PySem.W.kitOne K (.type "list") (.ref CR) = some false
  kD : PySem.W.kitOne K (.type "dict") (.ref CR) = some false
  rep : ∃ f fd, FnOk P w K mg base CX0 4 f fd ["self"] (spRepr CR (RatP CR)) ∧ Binds K fd ["self"] [] ∧ PySem.W.findIn K (.ref CR) "__repr__" = some (some (.ref f)) ∧ PySem.W.isFn K (.ref f) = true
theorem RpT.more {X : Cx} {j k : Nat} {H : Hp} {v : V} {t : Str} (r : RpT X j H v t) (h : j ≤ k) : RpT X k H v t :=
  fun A E pins σ s H1 u Q hz hg hf hr I hs rv hq => r A E pins σ s H1 u Q hz hg hf (hr.mono h) I hs rv hq
section
variable {P : Program} {w : World} {K : PySem.W.Frag} {mg : Str → Option Value} {base : Heap} {CR : Addr} {j k : Nat} {as bs : List Addr} {H H' : Hp} {v : V} {t : Str} {b : Bool}
theorem VOk.more (h : VOk P w K mg base CR j as H v t b) (hk : j ≤ k) (hs : ∀ c ∈ as, c ∈ bs) : VOk P w K mg base CR k bs H v t b :=
  ⟨fun X a1 a2 a3 a4 a5 => (h.rp X a1 a2 a3 a4 a5).more hk hs, fun X a1 a2 a3 a4 a5 => (h.rt X a1 a2 a3 a4 a5).more (Nat.add_le_add_right hk 2), h.ty, h.sz⟩
/-- one value, shown by some text -/
def Pl (P : Program) (w : World) (K : PySem.W.Frag) (mg : Str → Option Value) (base : Heap) (CR : Addr) (as : List Addr) (H : Hp) (v : V) : Prop := ∃ t b, VOk P w K mg base CR 5 as H v t b ∧ t.length ≤ 10000
theorem Pl.later (h : Pl P w K mg base CR as H v) (s : Same H H') : Pl P w K mg base CR as H' v := by
  obtain ⟨t, b, h, l⟩ := h
  exact ⟨t, b, h.later s, l⟩
theorem Pl.more (h : Pl P w K mg base CR as H v) (hs : ∀ c ∈ as, c ∈ bs) : Pl P w K mg base CR bs H v := by
  obtain ⟨t, b, h, l⟩ := h
  exact ⟨t, b, h.more (Nat.le_refl _) hs, l⟩
variable (R : RatC P w K mg base CR)
include R
theorem pl_non : Pl P w K mg base CR [] H .non := ⟨"None", false, ⟨fun X _ _ _ _ _ => RpU.none.more (by omega) (by simp), fun X _ _ _ _ _ => RpT.none.more (by omega), fun H' _ => ⟨_, .base .non, R.kN⟩, by decide +kernel⟩, by decide +kernel⟩
theorem pl_bl (c : Bool) : Pl P w K mg base CR [] H (.bl c) := by
  have l : (if c = true then Str.ofString "True" else Str.ofString "False").length ≤ 10000 := by cases c <;> decide +kernel
  exact ⟨_, false, ⟨fun X _ _ _ _ _ => RpU.bool.more (by omega) (by simp), fun X _ _ _ _ _ => RpT.bool.more (by omega), fun H' _ => ⟨_, .base (.bl c), R.kB⟩, by omega⟩, l⟩
theorem pl_int {n : Int} (h : Small n) : Pl P w K mg base CR [] H (.int n) := by
  have l := PyProof.Rows.int_text_len_1921 (small_log h)
  exact ⟨_, false, ⟨fun X _ _ _ _ _ => (RpU.int (small_log h)).more (by omega) (by simp), fun X _ _ _ _ _ => (RpT.int (small_log h)).more (by omega), fun H' _ => ⟨_, .base (.int n), R.kI⟩, by omega⟩, by omega⟩
theorem pl_str {x : Str} (h : (reprText x).length ≤ 10000) : Pl P w K mg base CR [] H (.str x) := by
  have l : (reprText x).length ≤ sizeLine := by rw [sizeLine_eq]; omega
  exact ⟨_, false, ⟨fun X _ _ _ _ _ => (RpU.str l).more (by omega) (by simp), fun X _ _ _ _ _ => (RpT.str l).more (by omega), fun H' _ => ⟨_, .base (.str x), R.kS⟩, by omega⟩, h⟩
theorem pl_tup {a : Addr} (h : H a = some (.tup [.int 1, .str "ann"])) : Pl P w K mg base CR [a] H (.ref a) := by
  have f : Flats [.int 1, .str "ann"] [toString (1 : Int), reprText "ann"] := .cons (.int (by decide +kernel)) (.cons (.str (by rw [sizeLine_eq]; decide +kernel)) .nil)
  refine ⟨_, false, ⟨fun X _ _ _ _ _ => (RpU.tup h f).more (by omega) (by simp), fun X _ _ _ _ _ => (RpT.tup h f).more (by omega), fun H' s => ⟨_, .base (.tup (s _ _ h)), R.kT⟩, by decide +kernel⟩, by decide +kernel⟩
theorem pl_lst {a : Addr} {n : Int} (h : H a = some (.lst [.int n])) (hn : Small n) : Pl P w K mg base CR [a] H (.ref a) := by
  have l := PyProof.Rows.int_text_len_1921 (small_log hn)
  have hz : (listText [toString n]).length ≤ 10000 := by
    have e1 : (Str.ofString "[").length = 1 := by decide +kernel
    have e2 : (Str.ofString "]").length = 1 := by decide +kernel
    have e3 : (Str.ofString "").length = 0 := by decide +kernel
    show (Str.ofString "[" ++ Str.ofString "" ++ Str.ofString (toString n) ++ Str.ofString "]").length ≤ 10000
    rw [strLen_append, strLen_append, strLen_append, e1, e2, e3]
    omega
  have r : ∀ X : Cx, RpAll X 4 [] H [.int n] [toString n] := fun X => .cons ((RpU.int (small_log hn)).more (by omega) (by simp)) .nil
  exact ⟨_, false, ⟨fun X _ _ _ _ _ => RpU.lst (by simp) h (r X), fun X _ _ _ _ _ => (RpT.lst (by simp) h (r X)).more (by omega), fun H' s => ⟨_, .base (.lst (s _ _ h)), R.kL⟩, by omega⟩, hz⟩
theorem pl_dct {a c : Addr} (h : H a = some (.dK [(Sum.inr "bob", .ref c)])) (hc : H c = some (.lst [.int 1])) : Pl P w K mg base CR [a, c] H (.ref a) := by
  have hac : a ≠ c := ne_of h hc (fun z => nomatch z)
  have kv : ∀ X : Cx, RpK X 1 [c] H (.ref c) (listText [toString (1 : Int)]) := fun X => RpK.lst hc (.cons (.int (by decide +kernel)) .nil)
  have l : (reprText "bob").length ≤ sizeLine := by rw [sizeLine_eq]; decide +kernel
  exact ⟨_, false, ⟨fun X _ _ _ _ _ => (RpU.dct h hac l (kv X)).more (by omega) (by simp), fun X _ _ _ _ _ => (RpT.dct h hac l (kv X)).more (by omega), fun H' s => ⟨_, .base (.dK (s _ _ h)), R.kD⟩, by decide +kernel⟩, by decide +kernel⟩
theorem pl_rat {a : Addr} {n d : Int} (h : RatAt CR H a n d) : Pl P w K mg base CR [] H (.ref a) := by
  obtain ⟨⟨dx, h1⟩, h2, h3⟩ := id h
  have l := (ratText_len h2 h3).2.2
  obtain ⟨f, fd, fn, bd, at_, isf⟩ := R.rep
  have ro : ∀ X : Cx, X.prog = P → X.w = w → X.K = K → X.mg = mg → X.base = base → ReprOf X CR f fd 4 (RatP CR) := fun X a1 a2 a3 a4 a5 => by
    subst a1 a2 a3 a4 a5
    exact ⟨fn, bd, at_, isf⟩
  refine ⟨ratText n d, true, ⟨fun X a1 a2 a3 a4 a5 => (RpU.own (ro X a1 a2 a3 a4 a5) h1 fun H1 s => ⟨n, d, h.same s, rfl⟩).more (by omega) (by simp),
    fun X a1 a2 a3 a4 a5 => (RpT.own (ro X a1 a2 a3 a4 a5) h1 fun H1 s => ⟨n, d, h.same s, rfl⟩).more (by omega), fun H' s => ⟨_, .base (.ins (s _ _ h1) R.cl R.ha R.hn R.htk R.hm), ?_⟩, by omega⟩, by omega⟩
  unfold PySem.W.kitOne
  rw [if_pos (by simp)]
/-- [n, v] of such a value -/
theorem pl_two {a : Addr} {n : Int} (h : H a = some (.lst [.int n, v])) (hn : Small n) (hv : Pl P w K mg base CR as H v) (ha : a ∉ as) : ∃ t b, VOk P w K mg base CR 20 (a :: as) H (.ref a) t b := by
  obtain ⟨t, b, o, l⟩ := hv
  have l0 := PyProof.Rows.int_text_len_1921 (small_log hn)
  have r : ∀ X : Cx, X.prog = P → X.w = w → X.K = K → X.mg = mg → X.base = base → RpAll X 19 as H [.int n, v] [toString n, t] := fun X a1 a2 a3 a4 a5 =>
    .cons ((RpU.int (small_log hn)).more (by omega) (by simp)) (.cons ((o.rp X a1 a2 a3 a4 a5).more (by omega) (fun c hc => hc)) .nil)
  have hz : (listText [toString n, t]).length ≤ 100000 := by
    have e1 : (Str.ofString "[").length = 1 := by decide +kernel
    have e2 : (Str.ofString "]").length = 1 := by decide +kernel
    have e3 : (Str.ofString "").length = 0 := by decide +kernel
    have e4 : (Str.ofString ", ").length = 2 := by decide +kernel
    show (Str.ofString "[" ++ Str.ofString "" ++ Str.ofString (toString n) ++ Str.ofString ", " ++ t ++ Str.ofString "]").length ≤ 100000
    rw [strLen_append, strLen_append, strLen_append, strLen_append, strLen_append, e1, e2, e3, e4]
    omega
  exact ⟨_, false, ⟨fun X a1 a2 a3 a4 a5 => RpU.lst ha h (r X a1 a2 a3 a4 a5), fun X a1 a2 a3 a4 a5 => (RpT.lst ha h (r X a1 a2 a3 a4 a5)).more (by omega), fun H' s => ⟨_, .base (.lst (s _ _ h)), R.kL⟩, hz⟩⟩
end
end K0

namespace K0
open PySem PySem.Spec PyProof.Rows L2
/-! ### the twelve, one behind another -/
section
variable {P : Program} {w : World} {K : PySem.W.Frag} {mg : Str → Option Value} {base : Heap} {CR : Addr}
theorem keep1 {H : Hp} {p : Addr} {o : HO} (h : H p = none) : Same H (upd H p o) := fun b u e => by rw [upd_ne (ne_of_none e h)]; exact e
theorem small_c {n : Int} (h : n.natAbs < 2 ^ 250 := by decide) : Small n := Nat.lt_of_lt_of_le h (Nat.pow_le_pow_right (by decide) (by decide))
abbrev tPlain (CR : Addr) (dv : List V) : TE := tLst (tCons (tC .non) (tCons (tC (.bl true)) (tCons (tVar 3) (tCons (tC (.str "part")) (tCons (tC (.str "")) (tCons (tTup (tCons (tC (.int 1)) (tCons (tC (.str "ann")) tNil)))
  (tCons (tLst (tCons (tVar 3) tNil)) (tCons (tDisp [(tC (.str "bob"), tLst (tCons (tC (.int 1)) tNil))]) (tCons (tC (.bl false)) (tCons (tC (.int 0)) (tCons (tMake CR (spRI CR) [] E0 (tCons (tC (.int 3)) (tCons (tC (.int 2)) tNil)))
  (tCons (tMake CR (spRI CR) dv E0 (tCons (tVar 3) tNil)) tNil))))))))))))
theorem plain_step (R : RatC P w K mg base CR) {σ : L2.St} {H : Hp} {Q : VK} {n : Int} (h3 : σ[3]? = some (some (.int n))) (hn : Small n)
    (k : ∀ (p : Addr) (H' : Hp) (as : List Addr) (zs : List V), Same H H' → H' p = some (.lst zs) → zs.length = 12 → (∀ (i : Nat) (v : V), zs[i]? = some v → Pl P w K mg base CR as H' v) → (∀ c ∈ as, ∃ o, H' c = some o) → Q (.ref p) H') : tPlain CR [.int 1] σ H Q := by
  refine ⟨_, h3, ⟨by show 2 ≤ sizeLine; decide, fun pt hpt => ?_⟩⟩
  refine ⟨_, h3, by show 1 ≤ sizeLine; decide, fun pl hpl => ?_⟩
  refine fun pd hpd => ⟨by show 1 ≤ sizeLine; decide, fun pb hpb => ⟨?_, [(Sum.inr "bob", .ref pb)], rfl, Nat.le_of_ble_eq_true rfl, ?_⟩⟩
  · rw [upd_ne (fun z => by rw [← z, upd_same] at hpb; cases hpb), upd_same]
  generalize e1 : upd H pt (.tup [.int 1, .str "ann"]) = H1 at hpl hpd hpb ⊢
  generalize e2 : upd H1 pl (.lst [.int n]) = H2 at hpd hpb ⊢
  generalize e3 : upd H2 pd (.dK []) = H3 at hpb ⊢
  generalize e4 : upd H3 pb (.lst [.int 1]) = H4 at ⊢
  have t1 : Same H H1 := e1 ▸ keep1 hpt
  have t2 : Same H1 H2 := e2 ▸ keep1 hpl
  have t3 : Same H2 H3 := e3 ▸ keep1 hpd
  have t4 : Same H3 H4 := e4 ▸ keep1 hpb
  have gt : H1 pt = some (.tup [.int 1, .str "ann"]) := by rw [← e1]; exact upd_same
  have gl : H2 pl = some (.lst [.int n]) := by rw [← e2]; exact upd_same
  have g3 : H3 pd = some (.dK []) := by rw [← e3]; exact upd_same
  have gb : H4 pb = some (.lst [.int 1]) := by rw [← e4]; exact upd_same
  have hbd : pb ≠ pd := fun z => by rw [z, g3] at hpb; cases hpb
  have t5 : Same H2 (upd H4 pd (.dK [(Sum.inr "bob", .ref pb)])) := fun c o e => by
    rw [upd_ne (ne_of_none e hpd)]
    exact t4 _ _ (t3 _ _ e)
  show tCons _ _ σ (upd H4 pd (.dK [(Sum.inr "bob", .ref pb)])) _
  generalize e5 : upd H4 pd (.dK [(Sum.inr "bob", .ref pb)]) = H5 at t5 ⊢
  have gd : H5 pd = some (.dK [(Sum.inr "bob", .ref pb)]) := by rw [← e5]; exact upd_same
  have gb5 : H5 pb = some (.lst [.int 1]) := by rw [← e5, upd_ne hbd]; exact gb
  refine fun x dx hx hdx hne => ⟨x, dx, 3, 2, rfl, by decide, small_c, small_c, upd_same, fun H6 a1 b1 r1 s1 => ⟨rfl, ?_⟩⟩
  have t6 : Same H5 H6 := fun c o e => s1 _ _ (by rw [upd_ne (ne_of_none e hx), upd_ne (ne_of_none e hdx)]; exact e) (ne_of_none e hx)
  refine ⟨_, h3, fun y dy hy hdy hney => ⟨y, dy, n, 1, rfl, by decide, hn, small_c, upd_same, fun H7 a2 b2 r2 s2 => ⟨rfl, ?_⟩⟩⟩
  have t7 : Same H6 H7 := fun c o e => s2 _ _ (by rw [upd_ne (ne_of_none e hy), upd_ne (ne_of_none e hdy)]; exact e) (ne_of_none e hy)
  refine ⟨by show 12 ≤ sizeLine; decide, fun p hp => ?_⟩
  have t8 : Same H7 (upd H7 p (.lst [.non, .bl true, .int n, .str "part", .str "", .ref pt, .ref pl, .ref pd, .bl false, .int 0, .ref x, .ref y])) := keep1 hp
  have u5 : Same H5 _ := (t6.trans t7).trans t8
  have u2 : Same H2 _ := t5.trans u5
  refine k p _ [pt, pl, pd, pb] _ ((t1.trans t2).trans u2) upd_same rfl (fun i v e => ?_) (fun c hc => ?_)
  · have m0 : ∀ c ∈ ([] : List Addr), c ∈ [pt, pl, pd, pb] := by simp
    match i, e with
    | 0, e => simp at e; subst e; exact (pl_non R).more m0
    | 1, e => simp at e; subst e; exact (pl_bl R true).more m0
    | 2, e => simp at e; subst e; exact (pl_int R hn).more m0
    | 3, e => simp at e; subst e; exact (pl_str R (by decide +kernel)).more m0
    | 4, e => simp at e; subst e; exact (pl_str R (by decide +kernel)).more m0
    | 5, e => simp at e; subst e; exact (pl_tup R (u2 _ _ (t2 _ _ gt))).more (by simp)
    | 6, e => simp at e; subst e; exact (pl_lst R (u2 _ _ gl) hn).more (by simp)
    | 7, e => simp at e; subst e; exact (pl_dct R (u5 _ _ gd) (u5 _ _ gb5)).more (by simp)
    | 8, e => simp at e; subst e; exact (pl_bl R false).more m0
    | 9, e => simp at e; subst e; exact (pl_int R small_c).more m0
    | 10, e => simp at e; subst e; exact (pl_rat R ((r1.same t7).same t8)).more m0
    | 11, e => simp at e; subst e; exact (pl_rat R (r2.same t8)).more m0
    | j + 12, e => simp at e
  · rcases (show c = pt ∨ c = pl ∨ c = pd ∨ c = pb by simpa using hc) with z | z | z | z
    · exact ⟨_, by rw [z]; exact u2 _ _ (t2 _ _ gt)⟩
    · exact ⟨_, by rw [z]; exact u2 _ _ gl⟩
    · exact ⟨_, by rw [z]; exact u5 _ _ gd⟩
    · exact ⟨_, by rw [z]; exact u5 _ _ gb5⟩
end
end K0

namespace K0
open PySem PySem.Spec PyProof.Rows L2

def spParts (K : PySem.W.Frag) : Sp := fun vs H Q _ => ∃ (v1 : V), vs = [v1] ∧ ∀ (p : Addr) (as : List Addr) (H' : Hp), Same H H' → H' p = some (.lst (as.map V.ref)) → Rows H' as ((tab.take 21).map (row K v1 .non .non)) → Q (.ref p) H'
section
variable {P : Program} {w : World} {K : PySem.W.Frag} {mg : Str → Option Value} {base : Heap} {f : Addr} {fd : FuncData}
theorem scParts : FnScope ["_law_one", "_law_made"] ["_law_one"] (defScope sParts) := ⟨rfl, rfl, rfl, by decide +kernel, rfl, by decide +kernel, by decide +kernel⟩
theorem ok_parts (M : Mks P w K mg base) (F : DefAt K "_law_parts" "_law_parts" sParts f fd) : FnOk P w K mg base CX0 3 f fd ["_law_one"] (spParts K) := by
  refine okD F scParts (fun vs H Q E h => ?_) (fun cdv A outer s H vs Q E hr h => ?_)
  · obtain ⟨v1, rfl, _⟩ := h
    rfl
  · obtain ⟨v1, rfl, k⟩ := h
    refine ⟨_, (pss_cons (ps_set (i := 1) scParts.nd rfl (Or.inl rfl) (pe_lst (pa_cons (pe_mkP (M.f 0 eBadRatio rfl (List.cons_ne_nil _ _)) rfl rfl hr (by rfl) (pa_cons (pv 0) pa_nil) bpBadRatio) (pa_cons (pe_mkK (ks := ["part"]) (g := List.reverse) (M.f 1 eBadHandOver rfl (List.cons_ne_nil _ _)) rfl rfl hr (by rfl) (pk_cons (pv 0) pk_nil) bkBadHandOver vals_rev) (pa_cons (pe_mkP (M.f 2 eBadSwap rfl (List.cons_ne_nil _ _)) rfl rfl hr (by rfl) (pa_cons (pv 0) pa_nil) bpBadSwap) (pa_cons (pe_mkK (ks := ["part"]) (g := List.reverse) (M.f 3 eBadBounds rfl (List.cons_ne_nil _ _)) rfl rfl hr (by rfl) (pk_cons (pv 0) pk_nil) bkBadBounds vals_rev) (pa_cons (pe_mkP (M.f 4 eBadLeanings rfl (List.cons_ne_nil _ _)) rfl rfl hr (by rfl) (pa_cons (pv 0) pa_nil) bpBadLeanings) pa_nil)))))))
      (pss_cons (ps_set (i := 1) scParts.nd rfl (Or.inl rfl) (pe_op op_cat (pv 1) (pe_lst (pa_cons (pe_mkK (ks := ["part"]) (g := List.reverse) (M.f 5 eBadDeal rfl (List.cons_ne_nil _ _)) rfl rfl hr (by rfl) (pk_cons (pv 0) pk_nil) bkBadDeal vals_rev) (pa_cons (pe_mkP (M.f 6 eBadRow rfl (List.cons_ne_nil _ _)) rfl rfl hr (by rfl) (pa_cons (pv 0) pa_nil) bpBadRow) (pa_cons (pe_mkK (ks := ["part"]) (g := List.reverse) (M.f 7 eBadDone rfl (List.cons_ne_nil _ _)) rfl rfl hr (by rfl) (pk_cons (pv 0) pk_nil) bkBadDone vals_rev) (pa_cons (pe_mkP (M.f 8 eBadCounts rfl (List.cons_ne_nil _ _)) rfl rfl hr (by rfl) (pa_cons (pv 0) pa_nil) bpBadCounts) (pa_cons (pe_mkK (ks := ["part"]) (g := List.reverse) (M.f 9 eBadDial rfl (List.cons_ne_nil _ _)) rfl rfl hr (by rfl) (pk_cons (pv 0) pk_nil) bkBadDial vals_rev) (pa_cons (pe_mkP (M.f 10 eBadWay rfl (List.cons_ne_nil _ _)) rfl rfl hr (by rfl) (pa_cons (pv 0) pa_nil) bpBadWay) pa_nil)))))))))
      (pss_cons (ps_set (i := 1) scParts.nd rfl (Or.inl rfl) (pe_op op_cat (pv 1) (pe_lst (pa_cons (pe_mkK (ks := ["part"]) (g := List.reverse) (M.f 11 eBadKeeper rfl (List.cons_ne_nil _ _)) rfl rfl hr (by rfl) (pk_cons (pv 0) pk_nil) bkBadKeeper vals_rev) (pa_cons (pe_mkP (M.f 12 eBadKeepers rfl (List.cons_ne_nil _ _)) rfl rfl hr (by rfl) (pa_cons (pv 0) pa_nil) bpBadKeepers) (pa_cons (pe_mkK (ks := ["part"]) (g := List.reverse) (M.f 13 eBadLaid rfl (List.cons_ne_nil _ _)) rfl rfl hr (by rfl) (pk_cons (pv 0) pk_nil) bkBadLaid vals_rev) (pa_cons (pe_mkP (M.f 14 eBadChoice rfl (List.cons_ne_nil _ _)) rfl rfl hr (by rfl) (pa_cons (pv 0) pa_nil) bpBadChoice) (pa_cons (pe_mkK (ks := ["part"]) (g := List.reverse) (M.f 15 eBadBook rfl (List.cons_ne_nil _ _)) rfl rfl hr (by rfl) (pk_cons (pv 0) pk_nil) bkBadBook vals_rev) pa_nil))))))))
      (pss_cons (ps_set (i := 1) scParts.nd rfl (Or.inl rfl) (pe_op op_cat (pv 1) (pe_lst (pa_cons (pe_mkP (M.f 16 eBadStory rfl (List.cons_ne_nil _ _)) rfl rfl hr (by rfl) (pa_cons (pv 0) pa_nil) bpBadStory) (pa_cons (pe_mkK (ks := ["part"]) (g := List.reverse) (M.f 17 eBadShare rfl (List.cons_ne_nil _ _)) rfl rfl hr (by rfl) (pk_cons (pv 0) pk_nil) bkBadShare vals_rev) (pa_cons (pe_mkP (M.f 18 eBadPlay rfl (List.cons_ne_nil _ _)) rfl rfl hr (by rfl) (pa_cons (pv 0) pa_nil) bpBadPlay) (pa_cons (pe_mkK (ks := ["part"]) (g := List.reverse) (M.f 19 eBadNumber rfl (List.cons_ne_nil _ _)) rfl rfl hr (by rfl) (pk_cons (pv 0) pk_nil) bkBadNumber vals_rev) (pa_cons (pe_mkP (M.f 20 eBadPaper rfl (List.cons_ne_nil _ _)) rfl rfl hr (by rfl) (pa_cons (pv 0) pa_nil) bpBadPaper) pa_nil))))))))
      (pss_one (ps_ret (pv 1))))))), ?_⟩
    refine list_step (rs := [row K v1 .non .non eBadRatio, row K v1 .non .non eBadHandOver, row K v1 .non .non eBadSwap, row K v1 .non .non eBadBounds, row K v1 .non .non eBadLeanings]) (.cons (mk1_row (vs := [v1]) rfl (.cons rfl .nil) rfl (by decide) rfl) (.cons (mk1_row (vs := [v1]) rfl (.cons rfl .nil) rfl (by decide) rfl) (.cons (mk1_row (vs := [v1]) rfl (.cons rfl .nil) rfl (by decide) rfl) (.cons (mk1_row (vs := [v1]) rfl (.cons rfl .nil) rfl (by decide) rfl) (.cons (mk1_row (vs := [v1]) rfl (.cons rfl .nil) rfl (by decide) rfl) MkL.nil))))) (Nat.le_of_ble_eq_true rfl) fun p0 as0 H0 s0 h0 r0 => ?_
    refine cat_step (ts := [row K v1 .non .non eBadDeal, row K v1 .non .non eBadRow, row K v1 .non .non eBadDone, row K v1 .non .non eBadCounts, row K v1 .non .non eBadDial, row K v1 .non .non eBadWay]) rfl h0 r0 (.cons (mk1_row (vs := [v1]) rfl (.cons rfl .nil) rfl (by decide) rfl) (.cons (mk1_row (vs := [v1]) rfl (.cons rfl .nil) rfl (by decide) rfl) (.cons (mk1_row (vs := [v1]) rfl (.cons rfl .nil) rfl (by decide) rfl) (.cons (mk1_row (vs := [v1]) rfl (.cons rfl .nil) rfl (by decide) rfl) (.cons (mk1_row (vs := [v1]) rfl (.cons rfl .nil) rfl (by decide) rfl) (.cons (mk1_row (vs := [v1]) rfl (.cons rfl .nil) rfl (by decide) rfl) MkL.nil)))))) (Nat.le_of_ble_eq_true rfl) fun p1 as1 H1 s1 h1 r1 => ?_
    refine cat_step (ts := [row K v1 .non .non eBadKeeper, row K v1 .non .non eBadKeepers, row K v1 .non .non eBadLaid, row K v1 .non .non eBadChoice, row K v1 .non .non eBadBook]) rfl h1 r1 (.cons (mk1_row (vs := [v1]) rfl (.cons rfl .nil) rfl (by decide) rfl) (.cons (mk1_row (vs := [v1]) rfl (.cons rfl .nil) rfl (by decide) rfl) (.cons (mk1_row (vs := [v1]) rfl (.cons rfl .nil) rfl (by decide) rfl) (.cons (mk1_row (vs := [v1]) rfl (.cons rfl .nil) rfl (by decide) rfl) (.cons (mk1_row (vs := [v1]) rfl (.cons rfl .nil) rfl (by decide) rfl) MkL.nil))))) (Nat.le_of_ble_eq_true rfl) fun p2 as2 H2 s2 h2 r2 => ?_
    refine cat_step (ts := [row K v1 .non .non eBadStory, row K v1 .non .non eBadShare, row K v1 .non .non eBadPlay, row K v1 .non .non eBadNumber, row K v1 .non .non eBadPaper]) rfl h2 r2 (.cons (mk1_row (vs := [v1]) rfl (.cons rfl .nil) rfl (by decide) rfl) (.cons (mk1_row (vs := [v1]) rfl (.cons rfl .nil) rfl (by decide) rfl) (.cons (mk1_row (vs := [v1]) rfl (.cons rfl .nil) rfl (by decide) rfl) (.cons (mk1_row (vs := [v1]) rfl (.cons rfl .nil) rfl (by decide) rfl) (.cons (mk1_row (vs := [v1]) rfl (.cons rfl .nil) rfl (by decide) rfl) MkL.nil))))) (Nat.le_of_ble_eq_true rfl) fun p3 as3 H3 s3 h3 r3 => ?_
    exact ⟨_, rfl, k p3 as3 H3 (((s0.trans s1).trans s2).trans s3) h3 r3⟩
end
end K0

namespace K0
open PySem PySem.Spec PyProof.Rows L2

def spPartsT (K : PySem.W.Frag) : Sp := fun vs H Q _ => ∃ (v1 : V), vs = [v1] ∧ ∀ (p : Addr) (as : List Addr) (H' : Hp), Same H H' → H' p = some (.lst (as.map V.ref)) → Rows H' as ((tab.take 21).map (row K v1 .non .non)) → Q (.ref p) H'
section
variable {P : Program} {w : World} {K : PySem.W.Frag} {mg : Str → Option Value} {base : Heap} {f : Addr} {fd : FuncData}
theorem scPartsT : FnScope ["_law_one", "_law_made"] ["_law_one"] (defScope sPartsT) := ⟨rfl, rfl, rfl, by decide +kernel, rfl, by decide +kernel, by decide +kernel⟩
theorem ok_partst (M : Mks P w K mg base) (F : DefAt K "_law_parts_turned" "_law_parts_turned" sPartsT f fd) : FnOk P w K mg base CX0 3 f fd ["_law_one"] (spPartsT K) := by
  refine okD F scPartsT (fun vs H Q E h => ?_) (fun cdv A outer s H vs Q E hr h => ?_)
  · obtain ⟨v1, rfl, _⟩ := h
    rfl
  · obtain ⟨v1, rfl, k⟩ := h
    refine ⟨_, (pss_cons (ps_set (i := 1) scPartsT.nd rfl (Or.inl rfl) (pe_lst (pa_cons (pe_mkK (ks := ["part"]) (g := List.reverse) (M.f 0 eBadRatio rfl (List.cons_ne_nil _ _)) rfl rfl hr (by rfl) (pk_cons (pv 0) pk_nil) bkBadRatio vals_rev) (pa_cons (pe_mkP (M.f 1 eBadHandOver rfl (List.cons_ne_nil _ _)) rfl rfl hr (by rfl) (pa_cons (pv 0) pa_nil) bpBadHandOver) (pa_cons (pe_mkK (ks := ["part"]) (g := List.reverse) (M.f 2 eBadSwap rfl (List.cons_ne_nil _ _)) rfl rfl hr (by rfl) (pk_cons (pv 0) pk_nil) bkBadSwap vals_rev) (pa_cons (pe_mkP (M.f 3 eBadBounds rfl (List.cons_ne_nil _ _)) rfl rfl hr (by rfl) (pa_cons (pv 0) pa_nil) bpBadBounds) (pa_cons (pe_mkK (ks := ["part"]) (g := List.reverse) (M.f 4 eBadLeanings rfl (List.cons_ne_nil _ _)) rfl rfl hr (by rfl) (pk_cons (pv 0) pk_nil) bkBadLeanings vals_rev) pa_nil)))))))
      (pss_cons (ps_set (i := 1) scPartsT.nd rfl (Or.inl rfl) (pe_op op_cat (pv 1) (pe_lst (pa_cons (pe_mkP (M.f 5 eBadDeal rfl (List.cons_ne_nil _ _)) rfl rfl hr (by rfl) (pa_cons (pv 0) pa_nil) bpBadDeal) (pa_cons (pe_mkK (ks := ["part"]) (g := List.reverse) (M.f 6 eBadRow rfl (List.cons_ne_nil _ _)) rfl rfl hr (by rfl) (pk_cons (pv 0) pk_nil) bkBadRow vals_rev) (pa_cons (pe_mkP (M.f 7 eBadDone rfl (List.cons_ne_nil _ _)) rfl rfl hr (by rfl) (pa_cons (pv 0) pa_nil) bpBadDone) (pa_cons (pe_mkK (ks := ["part"]) (g := List.reverse) (M.f 8 eBadCounts rfl (List.cons_ne_nil _ _)) rfl rfl hr (by rfl) (pk_cons (pv 0) pk_nil) bkBadCounts vals_rev) (pa_cons (pe_mkP (M.f 9 eBadDial rfl (List.cons_ne_nil _ _)) rfl rfl hr (by rfl) (pa_cons (pv 0) pa_nil) bpBadDial) (pa_cons (pe_mkK (ks := ["part"]) (g := List.reverse) (M.f 10 eBadWay rfl (List.cons_ne_nil _ _)) rfl rfl hr (by rfl) (pk_cons (pv 0) pk_nil) bkBadWay vals_rev) pa_nil)))))))))
      (pss_cons (ps_set (i := 1) scPartsT.nd rfl (Or.inl rfl) (pe_op op_cat (pv 1) (pe_lst (pa_cons (pe_mkP (M.f 11 eBadKeeper rfl (List.cons_ne_nil _ _)) rfl rfl hr (by rfl) (pa_cons (pv 0) pa_nil) bpBadKeeper) (pa_cons (pe_mkK (ks := ["part"]) (g := List.reverse) (M.f 12 eBadKeepers rfl (List.cons_ne_nil _ _)) rfl rfl hr (by rfl) (pk_cons (pv 0) pk_nil) bkBadKeepers vals_rev) (pa_cons (pe_mkP (M.f 13 eBadLaid rfl (List.cons_ne_nil _ _)) rfl rfl hr (by rfl) (pa_cons (pv 0) pa_nil) bpBadLaid) (pa_cons (pe_mkK (ks := ["part"]) (g := List.reverse) (M.f 14 eBadChoice rfl (List.cons_ne_nil _ _)) rfl rfl hr (by rfl) (pk_cons (pv 0) pk_nil) bkBadChoice vals_rev) (pa_cons (pe_mkP (M.f 15 eBadBook rfl (List.cons_ne_nil _ _)) rfl rfl hr (by rfl) (pa_cons (pv 0) pa_nil) bpBadBook) pa_nil))))))))
      (pss_cons (ps_set (i := 1) scPartsT.nd rfl (Or.inl rfl) (pe_op op_cat (pv 1) (pe_lst (pa_cons (pe_mkK (ks := ["part"]) (g := List.reverse) (M.f 16 eBadStory rfl (List.cons_ne_nil _ _)) rfl rfl hr (by rfl) (pk_cons (pv 0) pk_nil) bkBadStory vals_rev) (pa_cons (pe_mkP (M.f 17 eBadShare rfl (List.cons_ne_nil _ _)) rfl rfl hr (by rfl) (pa_cons (pv 0) pa_nil) bpBadShare) (pa_cons (pe_mkK (ks := ["part"]) (g := List.reverse) (M.f 18 eBadPlay rfl (List.cons_ne_nil _ _)) rfl rfl hr (by rfl) (pk_cons (pv 0) pk_nil) bkBadPlay vals_rev) (pa_cons (pe_mkP (M.f 19 eBadNumber rfl (List.cons_ne_nil _ _)) rfl rfl hr (by rfl) (pa_cons (pv 0) pa_nil) bpBadNumber) (pa_cons (pe_mkK (ks := ["part"]) (g := List.reverse) (M.f 20 eBadPaper rfl (List.cons_ne_nil _ _)) rfl rfl hr (by rfl) (pk_cons (pv 0) pk_nil) bkBadPaper vals_rev) pa_nil))))))))
      (pss_one (ps_ret (pv 1))))))), ?_⟩
    refine list_step (rs := [row K v1 .non .non eBadRatio, row K v1 .non .non eBadHandOver, row K v1 .non .non eBadSwap, row K v1 .non .non eBadBounds, row K v1 .non .non eBadLeanings]) (.cons (mk1_row (vs := [v1]) rfl (.cons rfl .nil) rfl (by decide) rfl) (.cons (mk1_row (vs := [v1]) rfl (.cons rfl .nil) rfl (by decide) rfl) (.cons (mk1_row (vs := [v1]) rfl (.cons rfl .nil) rfl (by decide) rfl) (.cons (mk1_row (vs := [v1]) rfl (.cons rfl .nil) rfl (by decide) rfl) (.cons (mk1_row (vs := [v1]) rfl (.cons rfl .nil) rfl (by decide) rfl) MkL.nil))))) (Nat.le_of_ble_eq_true rfl) fun p0 as0 H0 s0 h0 r0 => ?_
    refine cat_step (ts := [row K v1 .non .non eBadDeal, row K v1 .non .non eBadRow, row K v1 .non .non eBadDone, row K v1 .non .non eBadCounts, row K v1 .non .non eBadDial, row K v1 .non .non eBadWay]) rfl h0 r0 (.cons (mk1_row (vs := [v1]) rfl (.cons rfl .nil) rfl (by decide) rfl) (.cons (mk1_row (vs := [v1]) rfl (.cons rfl .nil) rfl (by decide) rfl) (.cons (mk1_row (vs := [v1]) rfl (.cons rfl .nil) rfl (by decide) rfl) (.cons (mk1_row (vs := [v1]) rfl (.cons rfl .nil) rfl (by decide) rfl) (.cons (mk1_row (vs := [v1]) rfl (.cons rfl .nil) rfl (by decide) rfl) (.cons (mk1_row (vs := [v1]) rfl (.cons rfl .nil) rfl (by decide) rfl) MkL.nil)))))) (Nat.le_of_ble_eq_true rfl) fun p1 as1 H1 s1 h1 r1 => ?_
    refine cat_step (ts := [row K v1 .non .non eBadKeeper, row K v1 .non .non eBadKeepers, row K v1 .non .non eBadLaid, row K v1 .non .non eBadChoice, row K v1 .non .non eBadBook]) rfl h1 r1 (.cons (mk1_row (vs := [v1]) rfl (.cons rfl .nil) rfl (by decide) rfl) (.cons (mk1_row (vs := [v1]) rfl (.cons rfl .nil) rfl (by decide) rfl) (.cons (mk1_row (vs := [v1]) rfl (.cons rfl .nil) rfl (by decide) rfl) (.cons (mk1_row (vs := [v1]) rfl (.cons rfl .nil) rfl (by decide) rfl) (.cons (mk1_row (vs := [v1]) rfl (.cons rfl .nil) rfl (by decide) rfl) MkL.nil))))) (Nat.le_of_ble_eq_true rfl) fun p2 as2 H2 s2 h2 r2 => ?_
    refine cat_step (ts := [row K v1 .non .non eBadStory, row K v1 .non .non eBadShare, row K v1 .non .non eBadPlay, row K v1 .non .non eBadNumber, row K v1 .non .non eBadPaper]) rfl h2 r2 (.cons (mk1_row (vs := [v1]) rfl (.cons rfl .nil) rfl (by decide) rfl) (.cons (mk1_row (vs := [v1]) rfl (.cons rfl .nil) rfl (by decide) rfl) (.cons (mk1_row (vs := [v1]) rfl (.cons rfl .nil) rfl (by decide) rfl) (.cons (mk1_row (vs := [v1]) rfl (.cons rfl .nil) rfl (by decide) rfl) (.cons (mk1_row (vs := [v1]) rfl (.cons rfl .nil) rfl (by decide) rfl) MkL.nil))))) (Nat.le_of_ble_eq_true rfl) fun p3 as3 H3 s3 h3 r3 => ?_
    exact ⟨_, rfl, k p3 as3 H3 (((s0.trans s1).trans s2).trans s3) h3 r3⟩
end
end K0

namespace K0
open PySem PySem.Spec PyProof.Rows L2

def spOthers (K : PySem.W.Frag) : Sp := fun vs H Q _ => ∃ (v1 v2 v3 : V), vs = [v1, v2, v3] ∧ ∀ (p : Addr) (as : List Addr) (H' : Hp), Same H H' → H' p = some (.lst (as.map V.ref)) → Rows H' as ((tab.drop 21).map (row K v1 v2 v3)) → Q (.ref p) H'
section
variable {P : Program} {w : World} {K : PySem.W.Frag} {mg : Str → Option Value} {base : Heap} {f : Addr} {fd : FuncData}
theorem scOthers : FnScope ["_law_one", "_law_two", "_law_three", "_law_made"] ["_law_one", "_law_two", "_law_three"] (defScope sOthers) := ⟨rfl, rfl, rfl, by decide +kernel, rfl, by decide +kernel, by decide +kernel⟩
theorem ok_others (M : Mks P w K mg base) (F : DefAt K "_law_others" "_law_others" sOthers f fd) : FnOk P w K mg base CX0 3 f fd ["_law_one", "_law_two", "_law_three"] (spOthers K) := by
  refine okD F scOthers (fun vs H Q E h => ?_) (fun cdv A outer s H vs Q E hr h => ?_)
  · obtain ⟨v1, v2, v3, rfl, _⟩ := h
    rfl
  · obtain ⟨v1, v2, v3, rfl, k⟩ := h
    refine ⟨_, (pss_cons (ps_set (i := 3) scOthers.nd rfl (Or.inl rfl) (pe_lst (pa_cons (pe_mkP (M.f 21 eNoStranger rfl (List.cons_ne_nil _ _)) rfl rfl hr (by rfl) (pa_cons (pv 0) pa_nil) bpNoStranger) (pa_cons (pe_mkP (M.f 22 eNoKeeper rfl (List.cons_ne_nil _ _)) rfl rfl hr (by rfl) (pa_cons (pv 0) pa_nil) bpNoKeeper) (pa_cons (pe_mkP (M.f 23 eLoser rfl (List.cons_ne_nil _ _)) rfl rfl hr (by rfl) (pa_cons (pv 0) pa_nil) bpLoser) (pa_cons (pe_mkP (M.f 24 eLeft rfl (List.cons_ne_nil _ _)) rfl rfl hr (by rfl) (pa_cons (pv 0) pa_nil) bpLeft) (pa_cons (pe_mkP (M.f 25 eNoHand rfl (List.cons_ne_nil _ _)) rfl rfl hr (by rfl) (pa_cons (pv 0) pa_nil) bpNoHand) (pa_cons (pe_mkP (M.f 26 eNoRow rfl (List.cons_ne_nil _ _)) rfl rfl hr (by rfl) (pa_cons (pv 0) pa_nil) bpNoRow) (pa_cons (pe_mkP (M.f 27 eNotEven rfl (List.cons_ne_nil _ _)) rfl rfl hr (by rfl) (pa_cons (pv 0) pa_nil) bpNotEven) pa_nil)))))))))
      (pss_cons (ps_set (i := 3) scOthers.nd rfl (Or.inl rfl) (pe_op op_cat (pv 3) (pe_lst (pa_cons (pe_mkP (M.f 28 eTooNarrow rfl (List.cons_ne_nil _ _)) rfl rfl hr (by rfl) (pa_cons (pv 0) pa_nil) bpTooNarrow) (pa_cons (pe_mkP (M.f 29 eBeyond rfl (List.cons_ne_nil _ _)) rfl rfl hr (by rfl) (pa_cons (pv 0) pa_nil) bpBeyond) (pa_cons (pe_mkP (M.f 30 eDone rfl (List.cons_ne_nil _ _)) rfl rfl hr (by rfl) (pa_cons (pv 0) pa_nil) bpDone) (pa_cons (pe_mkP (M.f 31 eBroken rfl (List.cons_ne_nil _ _)) rfl rfl hr (by rfl) (pa_cons (pv 0) pa_nil) bpBroken) (pa_cons (pe_mkP (M.f 32 eTwice rfl (List.cons_ne_nil _ _)) rfl rfl hr (by rfl) (pa_cons (pv 0) pa_nil) bpTwice) (pa_cons (pe_mkP (M.f 33 eUnlike rfl (List.cons_ne_nil _ _)) rfl rfl hr (by rfl) (pa_cons (pv 0) pa_nil) bpUnlike) (pa_cons (pe_mkP (M.f 34 eNotGood rfl (List.cons_ne_nil _ _)) rfl rfl hr (by rfl) (pa_cons (pv 0) pa_nil) bpNotGood) pa_nil))))))))))
      (pss_cons (ps_set (i := 3) scOthers.nd rfl (Or.inl rfl) (pe_op op_cat (pv 3) (pe_lst (pa_cons (pe_mkP (M.f 35 eNotTwo rfl (List.cons_ne_nil _ _)) rfl rfl hr (by rfl) (pa_cons (pv 0) pa_nil) bpNotTwo) (pa_cons (pe_mkP (M.f 36 eAhead rfl (List.cons_ne_nil _ _)) rfl rfl hr (by rfl) (pa_cons (pv 0) (pa_cons (pv 1) pa_nil)) bpAhead) (pa_cons (pe_mkP (M.f 37 eNotCoprime rfl (List.cons_ne_nil _ _)) rfl rfl hr (by rfl) (pa_cons (pv 0) (pa_cons (pv 1) pa_nil)) bpNotCoprime) (pa_cons (pe_mkP (M.f 38 eObjected rfl (List.cons_ne_nil _ _)) rfl rfl hr (by rfl) (pa_cons (pv 0) (pa_cons (pv 1) pa_nil)) bpObjected) (pa_cons (pe_mkP (M.f 39 eDrawnOut rfl (List.cons_ne_nil _ _)) rfl rfl hr (by rfl) (pa_cons (pv 0) (pa_cons (pv 1) pa_nil)) bpDrawnOut) pa_nil))))))))
      (pss_cons (ps_set (i := 3) scOthers.nd rfl (Or.inl rfl) (pe_op op_cat (pv 3) (pe_lst (pa_cons (pe_mkP (M.f 40 eRing rfl (List.cons_ne_nil _ _)) rfl rfl hr (by rfl) (pa_cons (pv 0) (pa_cons (pv 1) pa_nil)) bpRing) (pa_cons (pe_mkP (M.f 41 eLeans rfl (List.cons_ne_nil _ _)) rfl rfl hr (by rfl) (pa_cons (pv 0) (pa_cons (pv 1) pa_nil)) bpLeans) (pa_cons (pe_mkP (M.f 42 eNoWay rfl (List.cons_ne_nil _ _)) rfl rfl hr (by rfl) (pa_cons (pv 0) (pa_cons (pv 1) pa_nil)) bpNoWay) (pa_cons (pe_mkP (M.f 43 eTooMany rfl (List.cons_ne_nil _ _)) rfl rfl hr (by rfl) (pa_cons (pv 0) (pa_cons (pv 1) pa_nil)) bpTooMany) (pa_cons (pe_mkP (M.f 44 eBadText rfl (List.cons_ne_nil _ _)) rfl rfl hr (by rfl) (pa_cons (pv 0) (pa_cons (pv 1) pa_nil)) bpBadText) pa_nil))))))))
      (pss_cons (ps_set (i := 3) scOthers.nd rfl (Or.inl rfl) (pe_op op_cat (pv 3) (pe_lst (pa_cons (pe_mkP (M.f 45 eBadLine rfl (List.cons_ne_nil _ _)) rfl rfl hr (by rfl) (pa_cons (pv 0) (pa_cons (pv 1) pa_nil)) bpBadLine) (pa_cons (pe_mkP (M.f 46 eBelow rfl (List.cons_ne_nil _ _)) rfl rfl hr (by rfl) (pa_cons (pv 0) (pa_cons (pv 1) (pa_cons (pv 2) pa_nil))) bpBelow) (pa_cons (pe_mkP (M.f 47 eObjects rfl (List.cons_ne_nil _ _)) rfl rfl hr (by rfl) (pa_cons (pv 0) (pa_cons (pv 1) (pa_cons (pv 2) pa_nil))) bpObjects) (pa_cons (pe_mkZ M.alone (by rfl)) (pa_cons (pe_mkZ M.noDeed (by rfl)) pa_nil))))))))
      (pss_one (ps_ret (pv 3)))))))), ?_⟩
    refine list_step (rs := [row K v1 v2 v3 eNoStranger, row K v1 v2 v3 eNoKeeper, row K v1 v2 v3 eLoser, row K v1 v2 v3 eLeft, row K v1 v2 v3 eNoHand, row K v1 v2 v3 eNoRow, row K v1 v2 v3 eNotEven]) (.cons (mk1_row (vs := [v1]) rfl (.cons rfl .nil) rfl (by decide) rfl) (.cons (mk1_row (vs := [v1]) rfl (.cons rfl .nil) rfl (by decide) rfl) (.cons (mk1_row (vs := [v1]) rfl (.cons rfl .nil) rfl (by decide) rfl) (.cons (mk1_row (vs := [v1]) rfl (.cons rfl .nil) rfl (by decide) rfl) (.cons (mk1_row (vs := [v1]) rfl (.cons rfl .nil) rfl (by decide) rfl) (.cons (mk1_row (vs := [v1]) rfl (.cons rfl .nil) rfl (by decide) rfl) (.cons (mk1_row (vs := [v1]) rfl (.cons rfl .nil) rfl (by decide) rfl) MkL.nil))))))) (Nat.le_of_ble_eq_true rfl) fun p0 as0 H0 s0 h0 r0 => ?_
    refine cat_step (ts := [row K v1 v2 v3 eTooNarrow, row K v1 v2 v3 eBeyond, row K v1 v2 v3 eDone, row K v1 v2 v3 eBroken, row K v1 v2 v3 eTwice, row K v1 v2 v3 eUnlike, row K v1 v2 v3 eNotGood]) rfl h0 r0 (.cons (mk1_row (vs := [v1]) rfl (.cons rfl .nil) rfl (by decide) rfl) (.cons (mk1_row (vs := [v1]) rfl (.cons rfl .nil) rfl (by decide) rfl) (.cons (mk1_row (vs := [v1]) rfl (.cons rfl .nil) rfl (by decide) rfl) (.cons (mk1_row (vs := [v1]) rfl (.cons rfl .nil) rfl (by decide) rfl) (.cons (mk1_row (vs := [v1]) rfl (.cons rfl .nil) rfl (by decide) rfl) (.cons (mk1_row (vs := [v1]) rfl (.cons rfl .nil) rfl (by decide) rfl) (.cons (mk1_row (vs := [v1]) rfl (.cons rfl .nil) rfl (by decide) rfl) MkL.nil))))))) (Nat.le_of_ble_eq_true rfl) fun p1 as1 H1 s1 h1 r1 => ?_
    refine cat_step (ts := [row K v1 v2 v3 eNotTwo, row K v1 v2 v3 eAhead, row K v1 v2 v3 eNotCoprime, row K v1 v2 v3 eObjected, row K v1 v2 v3 eDrawnOut]) rfl h1 r1 (.cons (mk1_row (vs := [v1]) rfl (.cons rfl .nil) rfl (by decide) rfl) (.cons (mk1_row (vs := [v1, v2]) rfl (.cons rfl (.cons rfl .nil)) rfl (by decide) rfl) (.cons (mk1_row (vs := [v1, v2]) rfl (.cons rfl (.cons rfl .nil)) rfl (by decide) rfl) (.cons (mk1_row (vs := [v1, v2]) rfl (.cons rfl (.cons rfl .nil)) rfl (by decide) rfl) (.cons (mk1_row (vs := [v1, v2]) rfl (.cons rfl (.cons rfl .nil)) rfl (by decide) rfl) MkL.nil))))) (Nat.le_of_ble_eq_true rfl) fun p2 as2 H2 s2 h2 r2 => ?_
    refine cat_step (ts := [row K v1 v2 v3 eRing, row K v1 v2 v3 eLeans, row K v1 v2 v3 eNoWay, row K v1 v2 v3 eTooMany, row K v1 v2 v3 eBadText]) rfl h2 r2 (.cons (mk1_row (vs := [v1, v2]) rfl (.cons rfl (.cons rfl .nil)) rfl (by decide) rfl) (.cons (mk1_row (vs := [v1, v2]) rfl (.cons rfl (.cons rfl .nil)) rfl (by decide) rfl) (.cons (mk1_row (vs := [v1, v2]) rfl (.cons rfl (.cons rfl .nil)) rfl (by decide) rfl) (.cons (mk1_row (vs := [v1, v2]) rfl (.cons rfl (.cons rfl .nil)) rfl (by decide) rfl) (.cons (mk1_row (vs := [v1, v2]) rfl (.cons rfl (.cons rfl .nil)) rfl (by decide) rfl) MkL.nil))))) (Nat.le_of_ble_eq_true rfl) fun p3 as3 H3 s3 h3 r3 => ?_
    refine cat_step (ts := [row K v1 v2 v3 eBadLine, row K v1 v2 v3 eBelow, row K v1 v2 v3 eObjects, row K v1 v2 v3 eAlone, row K v1 v2 v3 eNoDeed]) rfl h3 r3 (.cons (mk1_row (vs := [v1, v2]) rfl (.cons rfl (.cons rfl .nil)) rfl (by decide) rfl) (.cons (mk1_row (vs := [v1, v2, v3]) rfl (.cons rfl (.cons rfl (.cons rfl .nil))) rfl (by decide) rfl) (.cons (mk1_row (vs := [v1, v2, v3]) rfl (.cons rfl (.cons rfl (.cons rfl .nil))) rfl (by decide) rfl) (.cons mk1_zero (.cons mk1_zero MkL.nil))))) (Nat.le_of_ble_eq_true rfl) fun p4 as4 H4 s4 h4 r4 => ?_
    exact ⟨_, rfl, k p4 as4 H4 ((((s0.trans s1).trans s2).trans s3).trans s4) h4 r4⟩
end
end K0

namespace K0
open PySem PySem.Spec PyProof.Rows L2

def spOthersN (K : PySem.W.Frag) : Sp := fun vs H Q _ => ∃ (v1 v2 v3 : V), vs = [v1, v2, v3] ∧ ∀ (p : Addr) (as : List Addr) (H' : Hp), Same H H' → H' p = some (.lst (as.map V.ref)) → Rows H' as ((tab.drop 21).map (row K v1 v2 v3)) → Q (.ref p) H'
section
variable {P : Program} {w : World} {K : PySem.W.Frag} {mg : Str → Option Value} {base : Heap} {f : Addr} {fd : FuncData}
theorem scOthersN : FnScope ["_law_one", "_law_two", "_law_three", "_law_made"] ["_law_one", "_law_two", "_law_three"] (defScope sOthersN) := ⟨rfl, rfl, rfl, by decide +kernel, rfl, by decide +kernel, by decide +kernel⟩
theorem ok_othersn (M : Mks P w K mg base) (F : DefAt K "_law_others_named" "_law_others_named" sOthersN f fd) : FnOk P w K mg base CX0 3 f fd ["_law_one", "_law_two", "_law_three"] (spOthersN K) := by
  refine okD F scOthersN (fun vs H Q E h => ?_) (fun cdv A outer s H vs Q E hr h => ?_)
  · obtain ⟨v1, v2, v3, rfl, _⟩ := h
    rfl
  · obtain ⟨v1, v2, v3, rfl, k⟩ := h
    refine ⟨_, (pss_cons (ps_set (i := 3) scOthersN.nd rfl (Or.inl rfl) (pe_lst (pa_cons (pe_mkK (ks := ["name"]) (g := List.reverse) (M.f 21 eNoStranger rfl (List.cons_ne_nil _ _)) rfl rfl hr (by rfl) (pk_cons (pv 0) pk_nil) bkNoStranger vals_rev) (pa_cons (pe_mkK (ks := ["name"]) (g := List.reverse) (M.f 22 eNoKeeper rfl (List.cons_ne_nil _ _)) rfl rfl hr (by rfl) (pk_cons (pv 0) pk_nil) bkNoKeeper vals_rev) (pa_cons (pe_mkK (ks := ["name"]) (g := List.reverse) (M.f 23 eLoser rfl (List.cons_ne_nil _ _)) rfl rfl hr (by rfl) (pk_cons (pv 0) pk_nil) bkLoser vals_rev) (pa_cons (pe_mkK (ks := ["name"]) (g := List.reverse) (M.f 24 eLeft rfl (List.cons_ne_nil _ _)) rfl rfl hr (by rfl) (pk_cons (pv 0) pk_nil) bkLeft vals_rev) (pa_cons (pe_mkK (ks := ["number"]) (g := List.reverse) (M.f 25 eNoHand rfl (List.cons_ne_nil _ _)) rfl rfl hr (by rfl) (pk_cons (pv 0) pk_nil) bkNoHand vals_rev) pa_nil)))))))
      (pss_cons (ps_set (i := 3) scOthersN.nd rfl (Or.inl rfl) (pe_op op_cat (pv 3) (pe_lst (pa_cons (pe_mkK (ks := ["number"]) (g := List.reverse) (M.f 26 eNoRow rfl (List.cons_ne_nil _ _)) rfl rfl hr (by rfl) (pk_cons (pv 0) pk_nil) bkNoRow vals_rev) (pa_cons (pe_mkK (ks := ["number"]) (g := List.reverse) (M.f 27 eNotEven rfl (List.cons_ne_nil _ _)) rfl rfl hr (by rfl) (pk_cons (pv 0) pk_nil) bkNotEven vals_rev) (pa_cons (pe_mkK (ks := ["number"]) (g := List.reverse) (M.f 28 eTooNarrow rfl (List.cons_ne_nil _ _)) rfl rfl hr (by rfl) (pk_cons (pv 0) pk_nil) bkTooNarrow vals_rev) (pa_cons (pe_mkK (ks := ["number"]) (g := List.reverse) (M.f 29 eBeyond rfl (List.cons_ne_nil _ _)) rfl rfl hr (by rfl) (pk_cons (pv 0) pk_nil) bkBeyond vals_rev) pa_nil)))))))
      (pss_cons (ps_set (i := 3) scOthersN.nd rfl (Or.inl rfl) (pe_op op_cat (pv 3) (pe_lst (pa_cons (pe_mkK (ks := ["number"]) (g := List.reverse) (M.f 30 eDone rfl (List.cons_ne_nil _ _)) rfl rfl hr (by rfl) (pk_cons (pv 0) pk_nil) bkDone vals_rev) (pa_cons (pe_mkK (ks := ["number"]) (g := List.reverse) (M.f 31 eBroken rfl (List.cons_ne_nil _ _)) rfl rfl hr (by rfl) (pk_cons (pv 0) pk_nil) bkBroken vals_rev) (pa_cons (pe_mkK (ks := ["value"]) (g := List.reverse) (M.f 32 eTwice rfl (List.cons_ne_nil _ _)) rfl rfl hr (by rfl) (pk_cons (pv 0) pk_nil) bkTwice vals_rev) (pa_cons (pe_mkK (ks := ["what"]) (g := List.reverse) (M.f 33 eUnlike rfl (List.cons_ne_nil _ _)) rfl rfl hr (by rfl) (pk_cons (pv 0) pk_nil) bkUnlike vals_rev) (pa_cons (pe_mkK (ks := ["moment"]) (g := List.reverse) (M.f 34 eNotGood rfl (List.cons_ne_nil _ _)) rfl rfl hr (by rfl) (pk_cons (pv 0) pk_nil) bkNotGood vals_rev) pa_nil))))))))
      (pss_cons (ps_set (i := 3) scOthersN.nd rfl (Or.inl rfl) (pe_op op_cat (pv 3) (pe_lst (pa_cons (pe_mkK (ks := ["many"]) (g := List.reverse) (M.f 35 eNotTwo rfl (List.cons_ne_nil _ _)) rfl rfl hr (by rfl) (pk_cons (pv 0) pk_nil) bkNotTwo vals_rev) (pa_cons (pe_mkK (ks := ["other", "one"]) (g := List.reverse) (M.f 36 eAhead rfl (List.cons_ne_nil _ _)) rfl rfl hr (by rfl) (pk_cons (pv 1) (pk_cons (pv 0) pk_nil)) bkAhead vals_rev) (pa_cons (pe_mkK (ks := ["other", "one"]) (g := List.reverse) (M.f 37 eNotCoprime rfl (List.cons_ne_nil _ _)) rfl rfl hr (by rfl) (pk_cons (pv 1) (pk_cons (pv 0) pk_nil)) bkNotCoprime vals_rev) pa_nil))))))
      (pss_cons (ps_set (i := 3) scOthersN.nd rfl (Or.inl rfl) (pe_op op_cat (pv 3) (pe_lst (pa_cons (pe_mkK (ks := ["amount", "name"]) (g := List.reverse) (M.f 38 eObjected rfl (List.cons_ne_nil _ _)) rfl rfl hr (by rfl) (pk_cons (pv 1) (pk_cons (pv 0) pk_nil)) bkObjected vals_rev) (pa_cons (pe_mkK (ks := ["amount", "name"]) (g := List.reverse) (M.f 39 eDrawnOut rfl (List.cons_ne_nil _ _)) rfl rfl hr (by rfl) (pk_cons (pv 1) (pk_cons (pv 0) pk_nil)) bkDrawnOut vals_rev) (pa_cons (pe_mkK (ks := ["numbers", "number"]) (g := List.reverse) (M.f 40 eRing rfl (List.cons_ne_nil _ _)) rfl rfl hr (by rfl) (pk_cons (pv 1) (pk_cons (pv 0) pk_nil)) bkRing vals_rev) pa_nil))))))
      (pss_cons (ps_set (i := 3) scOthersN.nd rfl (Or.inl rfl) (pe_op op_cat (pv 3) (pe_lst (pa_cons (pe_mkK (ks := ["other", "number"]) (g := List.reverse) (M.f 41 eLeans rfl (List.cons_ne_nil _ _)) rfl rfl hr (by rfl) (pk_cons (pv 1) (pk_cons (pv 0) pk_nil)) bkLeans vals_rev) (pa_cons (pe_mkK (ks := ["name", "done"]) (g := List.reverse) (M.f 42 eNoWay rfl (List.cons_ne_nil _ _)) rfl rfl hr (by rfl) (pk_cons (pv 1) (pk_cons (pv 0) pk_nil)) bkNoWay vals_rev) (pa_cons (pe_mkK (ks := ["most", "what"]) (g := List.reverse) (M.f 43 eTooMany rfl (List.cons_ne_nil _ _)) rfl rfl hr (by rfl) (pk_cons (pv 1) (pk_cons (pv 0) pk_nil)) bkTooMany vals_rev) pa_nil))))))
      (pss_cons (ps_set (i := 3) scOthersN.nd rfl (Or.inl rfl) (pe_op op_cat (pv 3) (pe_lst (pa_cons (pe_mkK (ks := ["word", "line"]) (g := List.reverse) (M.f 44 eBadText rfl (List.cons_ne_nil _ _)) rfl rfl hr (by rfl) (pk_cons (pv 1) (pk_cons (pv 0) pk_nil)) bkBadText vals_rev) (pa_cons (pe_mkK (ks := ["error", "line"]) (g := List.reverse) (M.f 45 eBadLine rfl (List.cons_ne_nil _ _)) rfl rfl hr (by rfl) (pk_cons (pv 1) (pk_cons (pv 0) pk_nil)) bkBadLine vals_rev) pa_nil)))))
      (pss_cons (ps_set (i := 3) scOthersN.nd rfl (Or.inl rfl) (pe_op op_cat (pv 3) (pe_lst (pa_cons (pe_mkK (ks := ["amount", "side", "name"]) (g := List.reverse) (M.f 46 eBelow rfl (List.cons_ne_nil _ _)) rfl rfl hr (by rfl) (pk_cons (pv 2) (pk_cons (pv 1) (pk_cons (pv 0) pk_nil))) bkBelow vals_rev) (pa_cons (pe_mkK (ks := ["place", "amount", "name"]) (g := List.reverse) (M.f 47 eObjects rfl (List.cons_ne_nil _ _)) rfl rfl hr (by rfl) (pk_cons (pv 2) (pk_cons (pv 1) (pk_cons (pv 0) pk_nil))) bkObjects vals_rev) (pa_cons (pe_mkZ M.alone (by rfl)) pa_nil))))))
      (pss_cons (ps_set (i := 3) scOthersN.nd rfl (Or.inl rfl) (pe_op op_cat (pv 3) (pe_lst (pa_cons (pe_mkZ M.noDeed (by rfl)) pa_nil))))
      (pss_one (ps_ret (pv 3)))))))))))), ?_⟩
    refine list_step (rs := [row K v1 v2 v3 eNoStranger, row K v1 v2 v3 eNoKeeper, row K v1 v2 v3 eLoser, row K v1 v2 v3 eLeft, row K v1 v2 v3 eNoHand]) (.cons (mk1_row (vs := [v1]) rfl (.cons rfl .nil) rfl (by decide) rfl) (.cons (mk1_row (vs := [v1]) rfl (.cons rfl .nil) rfl (by decide) rfl) (.cons (mk1_row (vs := [v1]) rfl (.cons rfl .nil) rfl (by decide) rfl) (.cons (mk1_row (vs := [v1]) rfl (.cons rfl .nil) rfl (by decide) rfl) (.cons (mk1_row (vs := [v1]) rfl (.cons rfl .nil) rfl (by decide) rfl) MkL.nil))))) (Nat.le_of_ble_eq_true rfl) fun p0 as0 H0 s0 h0 r0 => ?_
    refine cat_step (ts := [row K v1 v2 v3 eNoRow, row K v1 v2 v3 eNotEven, row K v1 v2 v3 eTooNarrow, row K v1 v2 v3 eBeyond]) rfl h0 r0 (.cons (mk1_row (vs := [v1]) rfl (.cons rfl .nil) rfl (by decide) rfl) (.cons (mk1_row (vs := [v1]) rfl (.cons rfl .nil) rfl (by decide) rfl) (.cons (mk1_row (vs := [v1]) rfl (.cons rfl .nil) rfl (by decide) rfl) (.cons (mk1_row (vs := [v1]) rfl (.cons rfl .nil) rfl (by decide) rfl) MkL.nil)))) (Nat.le_of_ble_eq_true rfl) fun p1 as1 H1 s1 h1 r1 => ?_
    refine cat_step (ts := [row K v1 v2 v3 eDone, row K v1 v2 v3 eBroken, row K v1 v2 v3 eTwice, row K v1 v2 v3 eUnlike, row K v1 v2 v3 eNotGood]) rfl h1 r1 (.cons (mk1_row (vs := [v1]) rfl (.cons rfl .nil) rfl (by decide) rfl) (.cons (mk1_row (vs := [v1]) rfl (.cons rfl .nil) rfl (by decide) rfl) (.cons (mk1_row (vs := [v1]) rfl (.cons rfl .nil) rfl (by decide) rfl) (.cons (mk1_row (vs := [v1]) rfl (.cons rfl .nil) rfl (by decide) rfl) (.cons (mk1_row (vs := [v1]) rfl (.cons rfl .nil) rfl (by decide) rfl) MkL.nil))))) (Nat.le_of_ble_eq_true rfl) fun p2 as2 H2 s2 h2 r2 => ?_
    refine cat_step (ts := [row K v1 v2 v3 eNotTwo, row K v1 v2 v3 eAhead, row K v1 v2 v3 eNotCoprime]) rfl h2 r2 (.cons (mk1_row (vs := [v1]) rfl (.cons rfl .nil) rfl (by decide) rfl) (.cons (mk1_row (vs := [v2, v1]) rfl (.cons rfl (.cons rfl .nil)) rfl (by decide) rfl) (.cons (mk1_row (vs := [v2, v1]) rfl (.cons rfl (.cons rfl .nil)) rfl (by decide) rfl) MkL.nil))) (Nat.le_of_ble_eq_true rfl) fun p3 as3 H3 s3 h3 r3 => ?_
    refine cat_step (ts := [row K v1 v2 v3 eObjected, row K v1 v2 v3 eDrawnOut, row K v1 v2 v3 eRing]) rfl h3 r3 (.cons (mk1_row (vs := [v2, v1]) rfl (.cons rfl (.cons rfl .nil)) rfl (by decide) rfl) (.cons (mk1_row (vs := [v2, v1]) rfl (.cons rfl (.cons rfl .nil)) rfl (by decide) rfl) (.cons (mk1_row (vs := [v2, v1]) rfl (.cons rfl (.cons rfl .nil)) rfl (by decide) rfl) MkL.nil))) (Nat.le_of_ble_eq_true rfl) fun p4 as4 H4 s4 h4 r4 => ?_
    refine cat_step (ts := [row K v1 v2 v3 eLeans, row K v1 v2 v3 eNoWay, row K v1 v2 v3 eTooMany]) rfl h4 r4 (.cons (mk1_row (vs := [v2, v1]) rfl (.cons rfl (.cons rfl .nil)) rfl (by decide) rfl) (.cons (mk1_row (vs := [v2, v1]) rfl (.cons rfl (.cons rfl .nil)) rfl (by decide) rfl) (.cons (mk1_row (vs := [v2, v1]) rfl (.cons rfl (.cons rfl .nil)) rfl (by decide) rfl) MkL.nil))) (Nat.le_of_ble_eq_true rfl) fun p5 as5 H5 s5 h5 r5 => ?_
    refine cat_step (ts := [row K v1 v2 v3 eBadText, row K v1 v2 v3 eBadLine]) rfl h5 r5 (.cons (mk1_row (vs := [v2, v1]) rfl (.cons rfl (.cons rfl .nil)) rfl (by decide) rfl) (.cons (mk1_row (vs := [v2, v1]) rfl (.cons rfl (.cons rfl .nil)) rfl (by decide) rfl) MkL.nil)) (Nat.le_of_ble_eq_true rfl) fun p6 as6 H6 s6 h6 r6 => ?_
    refine cat_step (ts := [row K v1 v2 v3 eBelow, row K v1 v2 v3 eObjects, row K v1 v2 v3 eAlone]) rfl h6 r6 (.cons (mk1_row (vs := [v3, v2, v1]) rfl (.cons rfl (.cons rfl (.cons rfl .nil))) rfl (by decide) rfl) (.cons (mk1_row (vs := [v3, v2, v1]) rfl (.cons rfl (.cons rfl (.cons rfl .nil))) rfl (by decide) rfl) (.cons mk1_zero MkL.nil))) (Nat.le_of_ble_eq_true rfl) fun p7 as7 H7 s7 h7 r7 => ?_
    refine cat_step (ts := [row K v1 v2 v3 eNoDeed]) rfl h7 r7 (.cons mk1_zero MkL.nil) (Nat.le_of_ble_eq_true rfl) fun p8 as8 H8 s8 h8 r8 => ?_
    exact ⟨_, rfl, k p8 as8 H8 ((((((((s0.trans s1).trans s2).trans s3).trans s4).trans s5).trans s6).trans s7).trans s8) h8 r8⟩
end
end K0

namespace K0
open PySem PySem.Spec PyProof.Rows L2

abbrev Def_ (P : Program) (w : World) (K : PySem.W.Frag) (mg : Str → Option Value) (base : Heap) (x : Str) (k : Nat) (ps : List Str) (sp : Sp) : Prop :=
  ∃ f fd, mg x = some (.ref f) ∧ PySem.W.keepIn K (.ref f) = true ∧ FnOk P w K mg base CX0 k f fd ps sp ∧ Binds K fd ps []
structure LawIn (P : Program) (w : World) (K : PySem.W.Frag) (mg : Str → Option Value) (base : Heap) (CR : Addr) : Prop where
  G : Glob mg
  mR : mg "Ratio" = some (.ref CR)
  R : RatC P w K mg base CR
  mkR : ∃ f fd, Mk K CR f ∧ FnOk P w K mg base CX0 2 f fd ["self", "top", "bottom"] (spRI CR) ∧ (∃ ds, Vals [] ds ∧ Binds K fd ["self", "top", "bottom"] ds) ∧ ∃ ds, Vals [.int 1] ds ∧ Binds K fd ["self", "top", "bottom"] ds
  M : Mks P w K mg base
  xM : XCls K (eMissing.C K)
  nM : PySem.W.findIn K (.ref (eMissing.C K)) "name" = some none
  kM : Kin K (eMissing.C K) 50
  xL : XCls K (eLastError.C K)
  kL : Kin K (eLastError.C K) 50
  pail : Def_ P w K mg base "_law_pail" 1 ["_law_script"] (spPail K)
  dip : Def_ P w K mg base "_law_dip" 1 ["_law_pail_here", "_law_many"] spDip
  parts : Def_ P w K mg base "_law_parts" 3 ["_law_one"] (spParts K)
  partsT : Def_ P w K mg base "_law_parts_turned" 3 ["_law_one"] (spPartsT K)
  others : Def_ P w K mg base "_law_others" 3 ["_law_one", "_law_two", "_law_three"] (spOthers K)
  othersN : Def_ P w K mg base "_law_others_named" 3 ["_law_one", "_law_two", "_law_three"] (spOthersN K)
  kin : Def_ P w K mg base "_law_kin" 1 ["_law_error"] (spKin K)
  all : ∃ f fd, mg "_law_all_right" = some (.ref f) ∧ PySem.W.keepIn K (.ref f) = true ∧ FnG P w K mg base 23 f fd ["_law_values", "_law_made"] (spAll P w K mg base CR) ∧ Binds K fd ["_law_values", "_law_made"] []
def spLaw (K : PySem.W.Frag) : Sp := fun vs H Q _ => ∃ (a : Addr) (ns : List Int), vs = [.ref a] ∧ SqL K H a (ns.map V.int) ∧ ns.length ≤ 63 ∧ ∀ H', Q (.bl true) H'
abbrev lawN : List Str := ["_law_script", "_law_pail_here", "_law_places", "_law_number", "_law_plain", "_law_values", "_law_one", "_law_two", "_law_three", "_law_error"]
theorem rows_all {K : PySem.W.Frag} {v1 v2 v3 : V} : (tab.take 21).map (row K v1 .non .non) ++ (tab.drop 21).map (row K v1 v2 v3) = tab.map (row K v1 v2 v3) := by
  have e : (tab.take 21).map (row K v1 .non .non) = (tab.take 21).map (row K v1 v2 v3) := rfl
  rw [e, ← List.map_append, List.take_append_drop]
theorem seq_asg {te : TE} {g : TG} {u : TS} {D : Ends} {σ : L2.St} {H : Hp} (h : te σ H fun x H1 => g x σ H1 (u D)) : tSeq (tAsg te g) u D σ H := h
theorem gname_seq {i : Nat} {v : V} {σ σ' : L2.St} {H : Hp} {u : L2.St → Hp → Prop} (hσ : σ.set i (some v) = σ') (h : u σ' H) : gName i v σ H u := by
  subst hσ
  exact h
theorem st_to {σ σ' : L2.St} {H : Hp} {u : L2.St → Hp → Prop} (hσ : σ = σ') (h : u σ' H) : u σ H := by
  subst hσ
  exact h
theorem next_to {D : Ends} {σ : L2.St} {H : Hp} (h : D.nx σ H) : tNext D σ H := h
theorem seq_to {t u : TS} {D : Ends} {σ : L2.St} {H : Hp} (h : t { D with nx := u D } σ H) : tSeq t u D σ H := h
theorem for_mkl {K : PySem.W.Frag} {ta : TA} {rs : List Row} {g : TG} {tb : TS} {D : Ends} {σ : L2.St} {H : Hp} (ml : MkL σ ta rs) (hz : rs.length ≤ 1000)
    (k : ∀ es He p, Same H He → Rows He es rs → He p = none → tFor (fun _ _ R => R (Itl K p) (upd He p (.lst (es.map V.ref)))) g tb D σ H) : tFor (iList K (tLst ta)) g tb D σ H :=
  ml H _ fun es He se re => ⟨by rw [List.length_map, re.len, sizeLine_eq]; omega, fun p hp => ⟨p, rfl, ⟨_, SqL.of upd_same⟩, k es He p se re hp⟩⟩
theorem ret_to {te : TE} {D : Ends} {σ : L2.St} {H : Hp} (h : te σ H D.rt) : tRet te D σ H := h
theorem and_to {ta tb : TE} {σ : L2.St} {H : Hp} {Q : VK} (h : ∀ R : VK, (∀ H', Same H H' → R (.bl true) H') → ta σ H R) (k : ∀ H', Same H H' → tb σ H' Q) : tAndV ta tb σ H Q :=
  h _ fun H' s => ⟨true, rfl, iteT (k H' s)⟩
theorem xat_mk {K : PySem.W.Frag} {f : Str} {te : TE} {r : Row} {σ : L2.St} {H : Hp} {Q : VK} {v : V} (m : Mk1 σ te r) (hf : r.2 ≠ []) (x : XfC K r.1) (n : PySem.W.findIn K (.ref r.1) f = some none) (l : r.2.lookup f = some v) (k : ∀ H', Same H H' → Q v H') : tXat K f te σ H Q :=
  m H _ fun a H' _ s he => ⟨a, r.1, r.2, v, rfl, he.ex hf, x, n, l, k H' s⟩
theorem repr_eq {X : Cx} {ta : TE} {v : V} {t : Str} {k j : Nat} {σ : L2.St} {H : Hp} {Q : VK} (ha : ∀ R : VK, (∀ H', Same H H' → R v H') → ta σ H R) (hσ : σ[j]? = some (some v)) (w : RpT X k H v t) (rr : Room k X.A) (sz : t.length ≤ sizeLine) (kk : ∀ H', Same H H' → Q (.bl true) H') :
    tOp rEq (tCB (rRepr X) (tCons ta tNil)) (tCB (rRepr X) (tCons (tVar j) tNil)) σ H Q :=
  ha _ fun H3 s3 => ⟨v, k, t, rfl, w.later s3, rr, sz, fun H4 s4 => ⟨_, hσ, v, k, t, rfl, w.later (s3.trans s4), rr, sz, fun H5 s5 => ⟨rfl, by
    rw [decide_eq_true rfl]
    exact kk H5 ((s3.trans s4).trans s5)⟩⟩⟩
theorem num_small {q r : Int} (h1 : 0 ≤ q) (h2 : q < 2) (h3 : 0 ≤ r) (h4 : r < 10 ^ 60) : Small ((2 * q - 1) * r) ∧ Small ((2 * q - 1) * r + 1) := by
  have e : (10 : Int) ^ 60 < 2 ^ 250 := by decide +kernel
  have e2 : (2 : Int) ^ 250 = 1809251394333065553493296640760748560207343510400633813116524750123642650624 := by decide +kernel
  rw [e2] at e
  generalize (10 : Int) ^ 60 = T at h4 e
  have key : ∀ n : Int, n.natAbs < 1809251394333065553493296640760748560207343510400633813116524750123642650625 → Small n := fun n hn => by
    exact Nat.lt_of_lt_of_le hn (show 1809251394333065553493296640760748560207343510400633813116524750123642650625 ≤ 2 ^ 300 by decide +kernel)
  rcases (show q = 0 ∨ q = 1 by omega) with rfl | rfl
  · have z : (2 * (0 : Int) - 1) * r = -r := by omega
    rw [z]
    exact ⟨key _ (by omega), key _ (by omega)⟩
  · have z : (2 * (1 : Int) - 1) * r = r := by omega
    rw [z]
    exact ⟨key _ (by omega), key _ (by omega)⟩
section
variable {P : Program} {w : World} {K : PySem.W.Frag} {mg : Str → Option Value} {base : Heap} {f : Addr} {fd : FuncData} {CR : Addr}
theorem scLaw : FnScope lawN ["_law_script"] (defScope sLaw) := ⟨rfl, rfl, rfl, by decide +kernel, rfl, by decide +kernel, by decide +kernel⟩
theorem ok_law (I : LawIn P w K mg base CR) (F : DefAt K "law" "law" sLaw f fd) : FnG P w K mg base 24 f fd ["_law_script"] (spLaw K) := by
  refine okG F scLaw (fun vs H Q E h => ?_) (fun cdv A outer s H vs Q hg hr h => ?_)
  · obtain ⟨a, ns, rfl, _⟩ := h
    rfl
  · obtain ⟨a, ns, rfl, hS, hl, k⟩ := h
    have G := I.G
    obtain ⟨f1, d1, m1, k1, o1, b1⟩ := I.pail
    obtain ⟨f2, d2, m2, k2, o2, b2⟩ := I.dip
    obtain ⟨f3, d3, m3, k3, o3, b3⟩ := I.parts
    obtain ⟨f4, d4, m4, k4, o4, b4⟩ := I.partsT
    obtain ⟨f5, d5, m5, k5, o5, b5⟩ := I.others
    obtain ⟨f6, d6, m6, k6, o6, b6⟩ := I.othersN
    obtain ⟨f7, d7, m7, k7, o7, b7⟩ := I.kin
    obtain ⟨f8, d8, m8, k8, o8, b8⟩ := I.all
    obtain ⟨fR, dR, MR, oR, ⟨ds0, v0, bR0⟩, ds1, v1', bR1⟩ := I.mkR
    have r1 : Room 1 (A.deeper (envOfC "law" (defScope sLaw) s.heap.objs.size f cdv)) := hr.mono (by omega)
    have r3 : Room 3 (A.deeper (envOfC "law" (defScope sLaw) s.heap.objs.size f cdv)) := hr.mono (by omega)
    refine ⟨_, pss_cons (ps_set (i := 1) scLaw.nd rfl (Or.inl rfl) (pe_call o1 r1 (by rfl) m1 k1 b1 .nil pass0 (pa_cons (pv 0) pa_nil)))
      (pss_cons (ps_set (i := 2) scLaw.nd rfl (Or.inl rfl) (pe_lst (pa_cons (pe_call o2 r1 (by rfl) m2 k2 b2 .nil pass0 (pa_cons (pv 1) (pa_cons pe_int pa_nil))) (pa_cons (pe_call o2 r1 (by rfl) m2 k2 b2 .nil pass0 (pa_cons (pv 1) (pa_cons pe_int pa_nil)))
        (pa_cons (pe_call o2 r1 (by rfl) m2 k2 b2 .nil pass0 (pa_cons (pv 1) (pa_cons pe_int pa_nil))) pa_nil)))))
      (pss_cons (ps_set (i := 3) scLaw.nd rfl (Or.inl rfl) (pe_op op_mul (pe_op op_sub (pe_op op_mul pe_int (pe_call o2 r1 (by rfl) m2 k2 b2 .nil pass0 (pa_cons (pv 1) (pa_cons pe_int pa_nil)))) pe_int)
        (pe_call o2 r1 (by rfl) m2 k2 b2 .nil pass0 (pa_cons (pv 1) (pa_cons (pe_op op_pow pe_int pe_int) pa_nil)))))
      (pss_cons (ps_set (i := 4) scLaw.nd rfl (Or.inl rfl) (pe_lst (pa_cons pe_non (pa_cons pe_bl (pa_cons (pv 3) (pa_cons pe_str (pa_cons pe_str (pa_cons (pe_tup (pa_cons pe_int (pa_cons pe_str pa_nil))) (pa_cons (pe_lst (pa_cons (pv 3) pa_nil))
        (pa_cons (pe_disp (pps_cons pe_str (pe_lst (pa_cons pe_int pa_nil)) pps_nil) rfl rfl (List.cons_ne_nil _ _) (by decide)) (pa_cons pe_bl (pa_cons pe_int
        (pa_cons (pe_make MR oR r3 (by rfl) I.mR bR0 v0 pass0 (pa_cons pe_int (pa_cons pe_int pa_nil))) (pa_cons (pe_make MR oR r3 (by rfl) I.mR bR1 v1' pass0 (pa_cons (pv 3) pa_nil)) pa_nil))))))))))))))
      (pss_cons (ps_set (i := 5) scLaw.nd rfl (Or.inl rfl) (pe_lst (pa_cons (pe_ix ix_list (pv 4) (pe_ix ix_list (pv 2) pe_int (fun _ _ => rfl)) (fun _ _ => rfl)) (pa_cons (pe_ix ix_list (pv 4) (pe_ix ix_list (pv 2) pe_int (fun _ _ => rfl)) (fun _ _ => rfl))
        (pa_cons (pe_lst (pa_cons (pe_op op_add (pv 3) pe_int) (pa_cons (pe_ix ix_list (pv 4) (pe_ix ix_list (pv 2) pe_int (fun _ _ => rfl)) (fun _ _ => rfl)) pa_nil))) pa_nil)))))
      (pss_cons (ps_par3 (i := 6) (j := 7) (l := 8) rfl scLaw.nd rfl rfl rfl (by decide) (by decide) (by decide) rfl rfl rfl (pa_cons (pe_ix ix_list (pv 5) pe_int (fun _ _ => rfl)) (pa_cons (pe_ix ix_list (pv 5) pe_int (fun _ _ => rfl)) (pa_cons (pe_ix ix_list (pv 5) pe_int (fun _ _ => rfl)) pa_nil))) rfl)
      (pss_cons (ps_if (pt_not (pt_val (pe_callG o8 hg hr (by rfl) m8 k8 b8 (pa_cons (pv 5) (pa_cons (pe_op op_cat (pe_call o3 r3 (by rfl) m3 k3 b3 .nil pass0 (pa_cons (pv 6) pa_nil)) (pe_call o5 r3 (by rfl) m5 k5 b5 .nil pass0 (pa_cons (pv 6) (pa_cons (pv 7) (pa_cons (pv 8) pa_nil))))) pa_nil))))) (pss_one (ps_ret pe_bl)) pss_nil)
      (pss_cons (ps_if (pt_not (pt_val (pe_callG o8 hg hr (by rfl) m8 k8 b8 (pa_cons (pv 5) (pa_cons (pe_op op_cat (pe_call o4 r3 (by rfl) m4 k4 b4 .nil pass0 (pa_cons (pv 6) pa_nil)) (pe_call o6 r3 (by rfl) m6 k6 b6 .nil pass0 (pa_cons (pv 6) (pa_cons (pv 7) (pa_cons (pv 8) pa_nil))))) pa_nil))))) (pss_one (ps_ret pe_bl)) pss_nil)
      (pss_cons (ps_for PassesOwn.never rfl (pi_list (pe_lst (pa_cons (pe_mkP I.M.m rfl rfl (hr.mono (by omega)) (by rfl) (pa_cons (pv 6) pa_nil) bpMissing)
          (pa_cons (pe_mkK (ks := ["name"]) (g := List.reverse) I.M.m rfl rfl (hr.mono (by omega)) (by rfl) (pk_cons (pv 6) pk_nil) bkMissing vals_rev) (pa_cons (pe_mkZ I.M.last (by rfl)) pa_nil))))) (pg_name (i := 9) scLaw.nd rfl (Or.inl rfl))
        (pss_one (ps_if (PW.pt (pw_or (pt_cmpR op_in_seq pe_bl (pe_call o7 r1 (by rfl) m7 k7 b7 .nil pass0 (pa_cons (pv 9) pa_nil)) (by with_unfolding_all rfl))
          (pw_or (pt_not (pt_val (pe_callB call_isX (by rfl) G.isi (by decide +kernel) (pa_cons (pv 9) (pa_cons (pe_glob (v := .ref (He.ga K "LastError")) (by rfl) I.M.last.mgC rfl) pa_nil)))))
          (pw_or1 (pt_not (pt_val (pe_callB call_isX (by rfl) G.isi (by decide +kernel) (pa_cons (pv 9) (pa_cons (pe_bltn (by rfl) G.ve (by decide +kernel) (v := .ty "ValueError") rfl) pa_nil))))))))) (pss_one (ps_ret pe_bl)) pss_nil)))
      (pss_one (ps_ret (pe_and (pe_cmpR op_eq (pe_callB (call_reprX hg) (by rfl) G.repr (by decide +kernel) (pa_cons (pe_xat (pe_mkP I.M.m rfl rfl (hr.mono (by omega)) (by rfl) (pa_cons (pv 6) pa_nil) bpMissing)) pa_nil)) (pe_callB (call_reprX hg) (by rfl) G.repr (by decide +kernel) (pa_cons (pv 6) pa_nil)) (nomark _))
        (pe_one (pe_cmpR op_eq (pe_callB (call_reprX hg) (by rfl) G.repr (by decide +kernel) (pa_cons (pe_xat (pe_mkK (ks := ["name"]) (g := List.reverse) I.M.m rfl rfl (hr.mono (by omega)) (by rfl) (pk_cons (pv 7) pk_nil) bkMissing vals_rev)) pa_nil)) (pe_callB (call_reprX hg) (by rfl) G.repr (by decide +kernel) (pa_cons (pv 7) pa_nil)) (nomark _)))))))))))))), ?_⟩
    -- the pail, the draws
    refine ⟨_, rfl, a, ns, rfl, hS, hl, fun p H1 z s1 hpn hp1 P0 => ?_⟩
    refine ⟨_, rfl, p, z, 0, z, 12, 0, rfl, hp1, P0, by decide, by decide, by decide +kernel, fun x1 y1 q1 a1 a2 P1 => ?_⟩
    refine ⟨_, rfl, p, x1, y1, z, 12, 1, rfl, upd_same, P1, by decide, by decide, by decide +kernel, fun x2 y2 q2 b1 b2 P2 => ?_⟩
    refine ⟨_, rfl, p, x2, y2, z, 12, 2, rfl, upd_same, P2, by decide, by decide, by decide +kernel, fun x3 y3 q3 c1 c2 P3 => ?_⟩
    refine ⟨by show 3 ≤ sizeLine; decide, fun pp hpp => ?_⟩
    have hppp : p ≠ pp := fun e => by rw [← e, upd_same] at hpp; cases hpp
    generalize eA : upd (upd (upd H1 p (.lst [.int x1, .int y1, .int z])) p (.lst [.int x2, .int y2, .int z])) p (.lst [.int x3, .int y3, .int z]) = HA
    have gA : upd HA pp (.lst [.int q1, .int q2, .int q3]) p = some (.lst [.int x3, .int y3, .int z]) := by rw [upd_ne hppp, ← eA]; exact upd_same
    have gP : upd HA pp (.lst [.int q1, .int q2, .int q3]) pp = some (.lst [.int q1, .int q2, .int q3]) := upd_same
    generalize eB : upd HA pp (.lst [.int q1, .int q2, .int q3]) = HB at gA gP
    refine ⟨_, rfl, p, x3, y3, z, 2, 3, rfl, gA, P3, by decide, by decide, by decide +kernel, fun x4 y4 q4 d1 d2 P4 => ?_⟩
    refine ⟨_, _, rfl, rfl, .inl ⟨by decide, by decide⟩, _, _, rfl, rfl, ?_⟩
    refine ⟨_, rfl, _, _, rfl, rfl, ⟨by decide, by decide, by decide⟩, p, x4, y4, z, _, 4, rfl, upd_same, P4, by decide, by decide +kernel, by decide +kernel, fun x5 y5 q5 e1 e2 P5 => ?_⟩
    obtain ⟨nS, nS1⟩ := num_small d1 d2 e1 e2
    refine ⟨_, _, rfl, rfl, .inl ⟨by omega, by omega⟩, ?_⟩
    show gName 3 (V.int ((2 * q4 - 1) * q5)) _ _ _
    generalize (2 * q4 - 1) * q5 = N at nS nS1 ⊢
    have gP2 : upd (upd HB p (.lst [.int x4, .int y4, .int z])) p (.lst [.int x5, .int y5, .int z]) pp = some (.lst [.int q1, .int q2, .int q3]) := by rw [upd_ne (Ne.symm hppp), upd_ne (Ne.symm hppp)]; exact gP
    generalize upd (upd HB p (.lst [.int x4, .int y4, .int z])) p (.lst [.int x5, .int y5, .int z]) = HC at gP2
    show tSeq (tAsg (tPlain CR [.int 1]) (gName 4)) _ _ [some (.ref a), some (.ref p), some (.ref pp), some (.int N), none, none, none, none, none, none] HC
    refine seq_asg ?_
    refine plain_step I.R rfl nS fun pq HD as zs sD hz hlen hPl hth => ?_
    obtain ⟨j1, rfl⟩ := Int.eq_ofNat_of_zero_le a1
    obtain ⟨j2, rfl⟩ := Int.eq_ofNat_of_zero_le b1
    obtain ⟨j3, rfl⟩ := Int.eq_ofNat_of_zero_le c1
    have i1 : j1 < zs.length := by omega
    have i2 : j2 < zs.length := by omega
    have i3 : j3 < zs.length := by omega
    have g1 : zs[j1]? = some zs[j1] := List.getElem?_eq_getElem i1
    have g2 : zs[j2]? = some zs[j2] := List.getElem?_eq_getElem i2
    have g3 : zs[j3]? = some zs[j3] := List.getElem?_eq_getElem i3
    generalize zs[j1] = z1 at g1
    generalize zs[j2] = z2 at g2
    generalize zs[j3] = z3 at g3
    have gP3 := sD _ _ gP2
    refine ⟨_, rfl, _, rfl, pp, _, 0, _, rfl, rfl, SqL.of gP3, atI_nat (j := 0) rfl, pq, zs, _, z1, rfl, rfl, SqL.of hz, atI_nat g1, ?_⟩
    refine ⟨_, rfl, _, rfl, pp, _, 1, _, rfl, rfl, SqL.of gP3, atI_nat (j := 1) rfl, pq, zs, _, z2, rfl, rfl, SqL.of hz, atI_nat g2, ?_⟩
    refine ⟨_, rfl, _, _, rfl, rfl, _, rfl, _, rfl, pp, _, 2, _, rfl, rfl, SqL.of gP3, atI_nat (j := 2) rfl, pq, zs, _, z3, rfl, rfl, SqL.of hz, atI_nat g3, by show 2 ≤ sizeLine; decide, fun p3 hp3 => ?_⟩
    refine ⟨by show 3 ≤ sizeLine; decide, fun p5 hp5 => ?_⟩
    -- the three values
    have n3 : p3 ∉ as := fun hin => by
      obtain ⟨o, ho⟩ := hth _ hin
      rw [hp3] at ho
      cases ho
    generalize hE : upd HD p3 _ = HE at hp5 ⊢
    have sE : Same HD HE := hE ▸ keep1 hp3
    have g3' : HE p3 = some (.lst [.int (N + 1), z3]) := by rw [← hE]; exact upd_same
    have sF : Same HE (upd HE p5 (.lst [z1, z2, .ref p3])) := keep1 hp5
    have g5 : upd HE p5 (.lst [z1, z2, .ref p3]) p5 = some (.lst [z1, z2, .ref p3]) := upd_same
    have n5 : p5 ∉ p3 :: as := fun hin => by
      rcases List.mem_cons.mp hin with e | hin
      · rw [← e, hp5] at g3'
        cases g3'
      · obtain ⟨o, ho⟩ := hth _ hin
        rw [sE _ _ ho] at hp5
        cases hp5
    refine gname_seq (σ' := [some (.ref a), some (.ref p), some (.ref pp), some (.int N), some (.ref pq), some (.ref p5), none, none, none, none]) rfl ?_
    generalize upd HE p5 (.lst [z1, z2, .ref p3]) = HF at sF g5
    have s3F : Same HD HF := sE.trans sF
    have V0 : V3 P w K mg base CR 20 (p3 :: as) HF z1 z2 (.ref p3) := by
      obtain ⟨t1, c1, o1, _⟩ := (hPl _ _ g1).later s3F
      obtain ⟨t2, c2, o2, _⟩ := (hPl _ _ g2).later s3F
      obtain ⟨t3, c3, o3⟩ := pl_two I.R (sF _ _ g3') nS1 ((hPl _ _ g3).later s3F) n3
      refine ⟨⟨t1, t2, t3, c1, c2, c3, o1.more (by omega) fun c hc => .tail _ hc, o2.more (by omega) fun c hc => .tail _ hc, o3⟩, fun c hc => ?_⟩
      rcases List.mem_cons.mp hc with e | hc
      · exact ⟨_, by rw [e]; exact sF _ _ g3'⟩
      · obtain ⟨o, ho⟩ := hth _ hc
        exact ⟨o, s3F _ _ ho⟩
    refine ⟨_, rfl, p5, _, 0, _, rfl, rfl, SqL.of g5, atI_nat (j := 0) rfl, _, rfl, p5, _, 1, _, rfl, rfl, SqL.of g5, atI_nat (j := 1) rfl, _, rfl, p5, _, 2, _, rfl, rfl, SqL.of g5, atI_nat (j := 2) rfl, _, _, _, rfl, ?_⟩
    refine st_to (σ' := [some (.ref a), some (.ref p), some (.ref pp), some (.int N), some (.ref pq), some (.ref p5), some z1, some z2, some (.ref p3), none]) rfl ?_
    -- all of them, by place and by name
    refine ⟨_, rfl, _, rfl, z1, rfl, fun pa as1 Ha sa ha ra => ?_⟩
    refine ⟨_, rfl, _, rfl, _, rfl, z1, z2, .ref p3, rfl, fun pb as2 Hb sb hb rb => ?_⟩
    refine ⟨pa, pb, _, _, rfl, rfl, sb _ _ ha, hb, ?_, fun pm hpm => ?_⟩
    · rw [List.length_map, List.length_map, ra.len, rb.len, List.length_map, List.length_map, sizeLine_eq]
      decide
    have sm : Same HF (upd Hb pm (.lst (as1.map V.ref ++ as2.map V.ref))) := (sa.trans sb).trans (keep1 hpm)
    refine ⟨p5, pm, z1, z2, .ref p3, p3 :: as, as1 ++ as2, rfl, sm _ _ g5, by rw [List.map_append]; exact upd_same, ?_, V0.later sm, n5, fun Hc sc => ⟨true, rfl, iteF ?_⟩⟩
    · rw [← rows_all]
      exact ((ra.same sb).append rb).same (keep1 hpm)
    have s1c := sm.trans sc
    refine ⟨_, rfl, _, rfl, z1, rfl, fun pa' as1' Ha' sa' ha' ra' => ?_⟩
    refine ⟨_, rfl, _, rfl, _, rfl, z1, z2, .ref p3, rfl, fun pb' as2' Hb' sb' hb' rb' => ?_⟩
    refine ⟨pa', pb', _, _, rfl, rfl, sb' _ _ ha', hb', ?_, fun pm' hpm' => ?_⟩
    · rw [List.length_map, List.length_map, ra'.len, rb'.len, List.length_map, List.length_map, sizeLine_eq]
      decide
    have sm' : Same HF (upd Hb' pm' (.lst (as1'.map V.ref ++ as2'.map V.ref))) := s1c.trans ((sa'.trans sb').trans (keep1 hpm'))
    refine ⟨p5, pm', z1, z2, .ref p3, p3 :: as, as1' ++ as2', rfl, sm' _ _ g5, by rw [List.map_append]; exact upd_same, ?_, V0.later sm', n5, fun Hd sd => ⟨true, rfl, iteF ?_⟩⟩
    · rw [← rows_all]
      exact ((ra'.same sb').append rb').same (keep1 hpm')
    have sG := sm'.trans sd
    -- the errors of no kin
    have ml : MkL [some (.ref a), some (.ref p), some (.ref pp), some (.int N), some (.ref pq), some (.ref p5), some z1, some z2, some (.ref p3), none] _ [row K z1 z1 z1 eMissing, row K z1 z1 z1 eMissing, (He.ga K "LastError", [])] :=
      .cons (mk1_row (C := eMissing.C K) (fl := eMissing.fl) (gV := id) (n := eMissing.fl.length) (ta := tCons (tVar 6) tNil) (vs := [z1]) rfl (.cons rfl .nil) rfl (by decide) rfl)
        (.cons (mk1_row (C := eMissing.C K) (fl := eMissing.fl) (gV := List.reverse) (n := ["name"].length) (ta := tCons (tVar 6) tNil) (vs := [z1]) rfl (.cons rfl .nil) rfl (by decide) rfl) (.cons mk1_zero .nil))
    refine next_to ?_
    refine seq_to ?_
    refine for_mkl ml (Nat.le_of_ble_eq_true rfl) fun es He pl se re hpl => ?_
    have el : es.length = 3 := re.len
    refine for_list (K := K) (a := pl) (xs := es.map V.ref)
      (fun i σ H2 => Same (upd He pl (.lst (es.map V.ref))) H2 ∧ ∃ x9, σ = [some (.ref a), some (.ref p), some (.ref pp), some (.int N), some (.ref pq), some (.ref p5), some z1, some z2, some (.ref p3), x9])
      ⟨Same.refl _, none, rfl⟩ (fun i σ H2 _ h => SqL.of (h.1 _ _ upd_same)) ?_ ?_
    · rintro i y σ H2 hi ⟨s2, x9, rfl⟩
      rw [List.getElem?_map] at hi
      obtain ⟨e, h1, rfl⟩ := Option.map_eq_some_iff.mp hi
      have hi3 : i < 3 := by
        have := (List.getElem?_eq_some_iff.mp h1).1
        omega
      obtain ⟨C, hx, T, kk⟩ : ∃ C, ExA H2 e C ∧ XCls K C ∧ Kin K C 50 := by
        have sH : Same He H2 := (keep1 hpl).trans s2
        rcases (show i = 0 ∨ i = 1 ∨ i = 2 by omega) with z | z | z
        · subst z
          obtain ⟨e', q1, q2⟩ := Rows.get re (i := 0) rfl
          obtain rfl : e = e' := by rw [h1] at q1; exact Option.some.inj q1
          exact ⟨_, (q2.same sH).exA, I.xM, I.kM⟩
        · subst z
          obtain ⟨e', q1, q2⟩ := Rows.get re (i := 1) rfl
          obtain rfl : e = e' := by rw [h1] at q1; exact Option.some.inj q1
          exact ⟨_, (q2.same sH).exA, I.xM, I.kM⟩
        · subst z
          obtain ⟨e', q1, q2⟩ := Rows.get re (i := 2) rfl
          obtain rfl : e = e' := by rw [h1] at q1; exact Option.some.inj q1
          exact ⟨_, (q2.same sH).exA, I.xL, I.kL⟩
      refine ⟨_, rfl, e, C, same 50, rfl, hx, T, kk.kin, fun pk H3 s3 h3 => ?_⟩
      refine ⟨pk, _, rfl, .inl (SqL.of h3), rfl, by decide +kernel, false, by decide +kernel, iteF ?_⟩
      refine ⟨_, rfl, e, C, _, _, true, rfl, .own _, hx.same s3, T, kk.last, true, rfl, iteF ?_⟩
      refine ⟨_, rfl, e, C, _, _, true, rfl, .ty _, hx.same s3, T, kk.ve, true, rfl, iteF ?_⟩
      exact ⟨s2.trans s3, _, rfl⟩
    · rintro σ H2 ⟨s2, x9, rfl⟩
      have sI : Same HF H2 := ((sG.trans se).trans (keep1 hpl)).trans s2
      obtain ⟨⟨t1, t2, t3, c1, c2, c3, o1, o2, o3⟩, _⟩ := V0.later sI
      have sz1 : t1.length ≤ sizeLine := by have := o1.sz; rw [sizeLine_eq]; omega
      have sz2 : t2.length ≤ sizeLine := by have := o2.sz; rw [sizeLine_eq]; omega
      have rr : Room 22 (A.deeper (envOfC "law" (defScope sLaw) s.heap.objs.size f cdv)) := hr.mono (by omega)
      have w1 := o1.rt (cxOf CX0 P w K mg base lawN "law" (defScope sLaw) f cdv A outer s H E0).nox rfl rfl rfl rfl rfl
      have w2 := o2.rt (cxOf CX0 P w K mg base lawN "law" (defScope sLaw) f cdv A outer s H E0).nox rfl rfl rfl rfl rfl
      dsimp only
      refine ret_to ?_
      refine and_to (fun R kR => repr_eq (v := z1) (fun R' kR' => xat_mk (r := row K z1 z1 z1 eMissing) (mk1_row (vs := [z1]) rfl (.cons rfl .nil) rfl (by decide) rfl) (List.cons_ne_nil _ _) I.xM.f I.nM rfl kR') rfl w1 rr sz1 kR) fun H3 s3 => ?_
      exact repr_eq (v := z2) (fun R' kR' => xat_mk (r := row K z2 z2 z2 eMissing) (mk1_row (vs := [z2]) rfl (.cons rfl .nil) rfl (by decide) rfl) (List.cons_ne_nil _ _) I.xM.f I.nM rfl kR') rfl (w2.later s3) rr sz2 fun H' _ => k H'
end
end K0

/-! What the opened module is asked for. -/
namespace K0
open PySem PySem.Spec PyProof.Rows L2
open He

theorem refs_own : ∀ own : List Addr, PySem.HandSPX.refsVE (own.map Value.ref ++ veBase) = true
  | [] => rfl
  | _ :: l => refs_own l
theorem oexB_ok {K : PySem.W.Frag} {C : Addr} {own : List Addr} (h : oexB K C (C :: own) = true) :
    (∃ nm q N bs bm sn sub ab col dd k0 k1 k2 k3 k5, K.lookup C = some (excClassObj nm q C N bs bm true sn sub ab col dd k0 k1 k2 k3 k5 "ValueError.__new__") ∧ PySem.HandSPX.refsVE bm = true) ∧
    (∃ cd, PySem.W.clsIn K C = some cd ∧ cd.mro = (C :: own).map Value.ref ++ veBase) := by
  unfold oexB at h
  cases q : K.lookup C with
  | none => rw [q] at h; cases h
  | some o =>
    obtain ⟨oc, od, dt, sl⟩ := o
    rw [q] at h
    cases oc with
    | type t =>
      cases dt with
      | cls cd =>
        have h' : (t == "type" && ((match sl.toList with
          | [_, _, _, _, some (.builtin n), _] => n == "ValueError.__new__"
          | _ => false) && (!cd.hasDel && (cd.hasDict && decide (cd.mro = (C :: own).map Value.ref ++ veBase))))) = true := h
        obtain ⟨a1, h'⟩ := ba h'
        obtain ⟨a2, h'⟩ := ba h'
        obtain ⟨a3, h'⟩ := ba h'
        obtain ⟨a4, a5⟩ := ba h'
        have e5 := of_decide_eq_true a5
        clear a5
        have a1 := eq_of_beq a1
        subst a1
        refine ⟨?_, cd, by unfold PySem.W.clsIn; rw [q], e5⟩
        split at a2
        · rename_i k0 k1 k2 k3 n k5 hs
          have a2 := eq_of_beq a2
          subst a2
          have hsl : sl = #[k0, k1, k2, k3, some (.builtin "ValueError.__new__"), k5] := by
            obtain ⟨l⟩ := sl
            simp only at hs
            rw [hs]
          subst hsl
          obtain ⟨nm, bs, mro, ns, qn, hd, sn, sub, ab, col, del⟩ := cd
          simp only [Bool.not_eq_true'] at a3 a4
          simp only at e5
          subst a3 a4 e5
          refine ⟨nm, qn, ns, bs, own.map Value.ref ++ veBase, sn, sub, ab, col, od, k0, k1, k2, k3, k5, rfl, ?_⟩
          exact refs_own own
        · cases a2
      | _ => cases h
    | _ => cases h
structure ClsF (K : PySem.W.Frag) (e : Ent) : Prop where
  gl : PySem.W.nsIn K mainGlobals e.x = some (some (.ref (e.C K)))
  x : XCls K (e.C K)
  mro : ∃ cd, PySem.W.clsIn K (e.C K) = some cd ∧ cd.mro = (e.own K).map Value.ref ++ veBase
  nf : ∀ f ∈ e.fl, PySem.W.findIn K (.ref (e.C K)) f = some none
theorem sub_of {K : PySem.W.Frag} {C : Addr} {l : List Value} {base : Value} (h : ∃ cd, PySem.W.clsIn K C = some cd ∧ cd.mro = l) (hl : l ≠ []) : PySem.W.subIn K (.ref C) base = some (l.contains base) := by
  obtain ⟨cd, h1, h2⟩ := h
  show PySem.W.mroIn K C base = _
  unfold PySem.W.mroIn
  rw [h1]
  show (if cd.mro.isEmpty = true then none else some (cd.mro.contains base)) = _
  rw [h2, if_neg]
  cases l with
  | nil => exact absurd rfl hl
  | cons a r => simp
structure Obj2 (K : PySem.W.Frag) : Prop where
  hn : PySem.W.specialIn K (.builtin "object.__class__") "__get__" = some (some (.builtin "getset_descriptor.__get__"))
  ht : PySem.W.takesIn K (.builtin "object.__class__") = some true
theorem own_contains {own : List Addr} {v : Value} (hv : ∀ a, v ≠ .ref a) : (own.map Value.ref ++ veBase).contains v = veBase.contains v := by
  induction own with
  | nil => rfl
  | cons a l ih =>
    show ((v == Value.ref a) || (l.map Value.ref ++ veBase).contains v) = _
    rw [ih, beq_eq_false_iff_ne.mpr (hv a), Bool.false_or]
theorem clsB_ok {K : PySem.W.Frag} {e : Ent} (o : Obj2 K) (h : clsB K e = true) : ClsF K e := by
  obtain ⟨h1, h⟩ := ba h
  obtain ⟨h2, h⟩ := ba h
  obtain ⟨h3, h⟩ := ba h
  obtain ⟨h4, h⟩ := ba h
  obtain ⟨h5, h⟩ := ba h
  obtain ⟨h6, h⟩ := ba h
  obtain ⟨h7, h8⟩ := ba h
  obtain ⟨c1, c2⟩ := oexB_ok h2
  have x := xfB_ok h6
  have ne : (e.own K).map Value.ref ++ veBase ≠ [] := by simp
  have hm : PySem.W.mroIn K (e.C K) (.type "object") = some true := by
    have z := sub_of (base := .type "object") c2 ne
    rw [own_contains (fun a z => by cases z)] at z
    exact z
  refine ⟨eqO_ok h1, ⟨⟨c1, eqO_ok h3, x.exC, of_decide_eq_true h4, h5⟩, x, ⟨x.ga, x.gg, x.exC, x.hdC, eqO_ok h7, o.hn, o.ht, hm⟩, ?_⟩, c2, fun f hf => ?_⟩
  · obtain ⟨cd, z, _⟩ := c2
    rw [z]
    rfl
  · exact eqO_ok (List.all_eq_true.mp h8 f hf)

/-! ### isinstance between them -/
theorem kit_own {K : PySem.W.Frag} {e d : Ent} (F : ClsF K e) (G : ClsF K d) : PySem.W.kitOne K (.ref (e.C K)) (.ref (d.C K)) = some (decide (d.C K ∈ e.own K)) := by
  unfold PySem.W.kitOne
  by_cases h : e.C K = d.C K
  · rw [if_pos (by rw [h]; simp), decide_eq_true (show d.C K ∈ e.own K by rw [← h]; exact .head _)]
  · rw [if_neg (by simp; exact h)]
    show (if ((PySem.W.clsIn K (d.C K)).isSome && PySem.W.typeIn K (.ref (d.C K)) == some (.type "type")) = true then PySem.W.subIn K (.ref (e.C K)) (.ref (d.C K)) else none) = _
    rw [if_pos (by rw [G.x.c, G.x.o.tyC]; decide), sub_of F.mro (by simp)]
    refine congrArg some ?_
    have ve : ∀ a : Addr, (veBase.contains (.ref a)) = false := fun a => by
      unfold veBase
      simp [List.contains_cons]
    generalize e.own K = l
    induction l with
    | nil => rw [show (([] : List Addr).map Value.ref ++ veBase) = veBase from rfl, ve]; simp
    | cons a l ih =>
      show ((Value.ref (d.C K) == Value.ref a) || (l.map Value.ref ++ veBase).contains (.ref (d.C K))) = _
      rw [ih]
      by_cases z : d.C K = a
      · rw [z]; simp
      · rw [show (Value.ref (d.C K) == Value.ref a) = false from beq_eq_false_iff_ne.mpr (fun q => z (Value.ref.inj q)), Bool.false_or]
        simp [z]
theorem kit_type {K : PySem.W.Frag} {e : Ent} (F : ClsF K e) {T : String} {b : Bool} (m : PySem.W.kitMeta T = true) (h : veBase.contains (.type T) = b) : PySem.W.kitOne K (.ref (e.C K)) (.type T) = some b := by
  unfold PySem.W.kitOne
  rw [if_neg (by simp)]
  show (if PySem.W.kitMeta T = true then PySem.W.subIn K (.ref (e.C K)) (.type T) else none) = _
  rw [if_pos m, sub_of F.mro (by simp), own_contains (fun a z => by cases z), h]
theorem nd_inj : ∀ {l : List Addr} {i j : Nat} {a : Addr}, l.Nodup → l[i]? = some a → l[j]? = some a → i = j
  | [], _, _, _, _, h, _ => by simp at h
  | b :: l, 0, 0, _, _, _, _ => rfl
  | b :: l, 0, j + 1, a, nd, h1, h2 => by
    simp at h1 h2
    subst h1
    exact absurd (List.mem_of_getElem? h2) (List.nodup_cons.mp nd).1
  | b :: l, i + 1, 0, a, nd, h1, h2 => by
    simp at h1 h2
    subst h2
    exact absurd (List.mem_of_getElem? h1) (List.nodup_cons.mp nd).1
  | b :: l, i + 1, j + 1, a, nd, h1, h2 => congrArg Nat.succ (nd_inj (List.nodup_cons.mp nd).2 (by simpa using h1) (by simpa using h2))
section
variable {K : PySem.W.Frag}
theorem tab_lt {j : Nat} {d : Ent} (h : tab[j]? = some d) : j < 50 := (List.getElem?_eq_some_iff.mp h).1
theorem at_tab {j : Nat} {d : Ent} (h : tab[j]? = some d) : (adrs K)[j]? = some (d.C K) := by
  unfold adrs all52
  rw [List.getElem?_map, List.getElem?_append_left (tab_lt h), h]
  rfl
theorem at_M : (adrs K)[50]? = some (eMissing.C K) := rfl
theorem at_L : (adrs K)[51]? = some (eLastError.C K) := rfl
theorem tab_chain {n : Nat} {e : Ent} (h : tab[n]? = some e) : e.chain = if 21 ≤ n ∧ n < 23 then (["Missing", "LastError"] : List Str) else ["LastError"] := by
  have hh : (List.range 50).all (fun n => tab[n]?.map Ent.chain == some (if 21 ≤ n ∧ n < 23 then (["Missing", "LastError"] : List Str) else ["LastError"])) = true := by decide +kernel
  have z := List.all_eq_true.mp hh n (List.mem_range.mpr (tab_lt h))
  rw [h] at z
  exact Option.some.inj (eq_of_beq z)
theorem kin_tab (nd : (adrs K).Nodup) {n j : Nat} {e d : Ent} (he : tab[n]? = some e) (hd : tab[j]? = some d) : decide (d.C K ∈ e.own K) = same n j := by
  have hj := tab_lt hd
  have dM : d.C K ≠ eMissing.C K := fun z => by
    have := nd_inj nd (at_tab hd) (by rw [z]; exact at_M)
    omega
  have dL : d.C K ≠ eLastError.C K := fun z => by
    have := nd_inj nd (at_tab hd) (by rw [z]; exact at_L)
    omega
  have key : d.C K ∈ e.own K ↔ n = j := by
    constructor
    · intro h
      rcases List.mem_cons.mp h with z | h
      · exact (nd_inj nd (at_tab hd) (by rw [z]; exact at_tab he)).symm
      · rw [tab_chain he] at h
        split at h
        · rcases (show d.C K = eMissing.C K ∨ d.C K = eLastError.C K by simpa using h) with z | z
          · exact absurd z dM
          · exact absurd z dL
        · exact absurd (show d.C K = eLastError.C K by simpa using h) dL
    · intro h
      subst h
      rw [he] at hd
      obtain rfl := Option.some.inj hd
      exact .head _
  unfold same
  exact decide_eq_decide.mpr key
theorem kin_M (nd : (adrs K).Nodup) {j : Nat} {d : Ent} (hd : tab[j]? = some d) : decide (d.C K ∈ eMissing.own K) = same 50 j ∧ decide (d.C K ∈ eLastError.own K) = same 50 j := by
  have hj := tab_lt hd
  have dM : d.C K ≠ eMissing.C K := fun z => by
    have := nd_inj nd (at_tab hd) (by rw [z]; exact at_M)
    omega
  have dL : d.C K ≠ eLastError.C K := fun z => by
    have := nd_inj nd (at_tab hd) (by rw [z]; exact at_L)
    omega
  have s : same 50 j = false := decide_eq_false (by omega)
  rw [s]
  refine ⟨decide_eq_false fun h => ?_, decide_eq_false fun h => ?_⟩
  · rcases (show d.C K = eMissing.C K ∨ d.C K = eLastError.C K by simpa using h) with z | z
    · exact dM z
    · exact dL z
  · exact dL (by simpa using h)
theorem kin_mis (nd : (adrs K).Nodup) {n : Nat} {e : Ent} (he : tab[n]? = some e) : decide (eMissing.C K ∈ e.own K) = decide (21 ≤ n ∧ n < 23) := by
  have hn := tab_lt he
  refine decide_eq_decide.mpr ⟨fun h => ?_, fun h => ?_⟩
  · rcases List.mem_cons.mp h with z | h
    · have := nd_inj nd (at_tab he) (by rw [← show eMissing.C K = e.C K from z]; exact at_M)
      omega
    · rw [tab_chain he] at h
      split at h
      · assumption
      · have z : eMissing.C K = eLastError.C K := by simpa using h
        have := nd_inj nd (show (adrs K)[50]? = some (eMissing.C K) from at_M) (by rw [z]; exact at_L)
        omega
  · refine .tail _ ?_
    rw [tab_chain he, if_pos h]
    exact .head _
theorem last_in {n : Nat} {e : Ent} (he : tab[n]? = some e) : eLastError.C K ∈ e.own K := by
  refine .tail _ ?_
  rw [tab_chain he]
  split
  · exact .tail _ (.head _)
  · exact .head _
end
end K0

namespace K0
open PySem PySem.Spec PyProof.Rows L2

/-- the __init__ of a class of the table keeps its promise -/
abbrev InitOk (e : Ent) : Prop := ∀ {P : Program} {w : World} {K : PySem.W.Frag} {mg : Str → Option Value} {base : Heap} {fI : Addr} {fd : FuncData}, FunD K "__init__" e.q (defArgs e.st) (defBody e.st) (defScope e.st) [] [] fI fd → OexC K (e.C K) →
  (∀ f ∈ e.fl, PySem.W.findIn K (.ref (e.C K)) f = some none) → FnOk P w K mg base CX0 1 fI fd ("self" :: e.fl) (spI (e.C K) e.fl)
theorem ioBadRatio : InitOk eBadRatio := fun F T nf => init1 F ⟨rfl, rfl, rfl, by decide +kernel, rfl, by decide +kernel, by decide +kernel⟩ rfl T ⟨by decide, by decide⟩ (nf _ (by simp))
theorem ioBadHandOver : InitOk eBadHandOver := fun F T nf => init1 F ⟨rfl, rfl, rfl, by decide +kernel, rfl, by decide +kernel, by decide +kernel⟩ rfl T ⟨by decide, by decide⟩ (nf _ (by simp))
theorem ioBadSwap : InitOk eBadSwap := fun F T nf => init1 F ⟨rfl, rfl, rfl, by decide +kernel, rfl, by decide +kernel, by decide +kernel⟩ rfl T ⟨by decide, by decide⟩ (nf _ (by simp))
theorem ioBadBounds : InitOk eBadBounds := fun F T nf => init1 F ⟨rfl, rfl, rfl, by decide +kernel, rfl, by decide +kernel, by decide +kernel⟩ rfl T ⟨by decide, by decide⟩ (nf _ (by simp))
theorem ioBadLeanings : InitOk eBadLeanings := fun F T nf => init1 F ⟨rfl, rfl, rfl, by decide +kernel, rfl, by decide +kernel, by decide +kernel⟩ rfl T ⟨by decide, by decide⟩ (nf _ (by simp))
theorem ioBadDeal : InitOk eBadDeal := fun F T nf => init1 F ⟨rfl, rfl, rfl, by decide +kernel, rfl, by decide +kernel, by decide +kernel⟩ rfl T ⟨by decide, by decide⟩ (nf _ (by simp))
theorem ioBadRow : InitOk eBadRow := fun F T nf => init1 F ⟨rfl, rfl, rfl, by decide +kernel, rfl, by decide +kernel, by decide +kernel⟩ rfl T ⟨by decide, by decide⟩ (nf _ (by simp))
theorem ioBadDone : InitOk eBadDone := fun F T nf => init1 F ⟨rfl, rfl, rfl, by decide +kernel, rfl, by decide +kernel, by decide +kernel⟩ rfl T ⟨by decide, by decide⟩ (nf _ (by simp))
theorem ioBadCounts : InitOk eBadCounts := fun F T nf => init1 F ⟨rfl, rfl, rfl, by decide +kernel, rfl, by decide +kernel, by decide +kernel⟩ rfl T ⟨by decide, by decide⟩ (nf _ (by simp))
theorem ioBadDial : InitOk eBadDial := fun F T nf => init1 F ⟨rfl, rfl, rfl, by decide +kernel, rfl, by decide +kernel, by decide +kernel⟩ rfl T ⟨by decide, by decide⟩ (nf _ (by simp))
theorem ioBadWay : InitOk eBadWay := fun F T nf => init1 F ⟨rfl, rfl, rfl, by decide +kernel, rfl, by decide +kernel, by decide +kernel⟩ rfl T ⟨by decide, by decide⟩ (nf _ (by simp))
theorem ioBadKeeper : InitOk eBadKeeper := fun F T nf => init1 F ⟨rfl, rfl, rfl, by decide +kernel, rfl, by decide +kernel, by decide +kernel⟩ rfl T ⟨by decide, by decide⟩ (nf _ (by simp))
theorem ioBadKeepers : InitOk eBadKeepers := fun F T nf => init1 F ⟨rfl, rfl, rfl, by decide +kernel, rfl, by decide +kernel, by decide +kernel⟩ rfl T ⟨by decide, by decide⟩ (nf _ (by simp))
theorem ioBadLaid : InitOk eBadLaid := fun F T nf => init1 F ⟨rfl, rfl, rfl, by decide +kernel, rfl, by decide +kernel, by decide +kernel⟩ rfl T ⟨by decide, by decide⟩ (nf _ (by simp))
theorem ioBadChoice : InitOk eBadChoice := fun F T nf => init1 F ⟨rfl, rfl, rfl, by decide +kernel, rfl, by decide +kernel, by decide +kernel⟩ rfl T ⟨by decide, by decide⟩ (nf _ (by simp))
theorem ioBadBook : InitOk eBadBook := fun F T nf => init1 F ⟨rfl, rfl, rfl, by decide +kernel, rfl, by decide +kernel, by decide +kernel⟩ rfl T ⟨by decide, by decide⟩ (nf _ (by simp))
theorem ioBadStory : InitOk eBadStory := fun F T nf => init1 F ⟨rfl, rfl, rfl, by decide +kernel, rfl, by decide +kernel, by decide +kernel⟩ rfl T ⟨by decide, by decide⟩ (nf _ (by simp))
theorem ioBadShare : InitOk eBadShare := fun F T nf => init1 F ⟨rfl, rfl, rfl, by decide +kernel, rfl, by decide +kernel, by decide +kernel⟩ rfl T ⟨by decide, by decide⟩ (nf _ (by simp))
theorem ioBadPlay : InitOk eBadPlay := fun F T nf => init1 F ⟨rfl, rfl, rfl, by decide +kernel, rfl, by decide +kernel, by decide +kernel⟩ rfl T ⟨by decide, by decide⟩ (nf _ (by simp))
theorem ioBadNumber : InitOk eBadNumber := fun F T nf => init1 F ⟨rfl, rfl, rfl, by decide +kernel, rfl, by decide +kernel, by decide +kernel⟩ rfl T ⟨by decide, by decide⟩ (nf _ (by simp))
theorem ioBadPaper : InitOk eBadPaper := fun F T nf => init1 F ⟨rfl, rfl, rfl, by decide +kernel, rfl, by decide +kernel, by decide +kernel⟩ rfl T ⟨by decide, by decide⟩ (nf _ (by simp))
theorem ioNoStranger : InitOk eNoStranger := fun F T nf => init1 F ⟨rfl, rfl, rfl, by decide +kernel, rfl, by decide +kernel, by decide +kernel⟩ rfl T ⟨by decide, by decide⟩ (nf _ (by simp))
theorem ioNoKeeper : InitOk eNoKeeper := fun F T nf => init1 F ⟨rfl, rfl, rfl, by decide +kernel, rfl, by decide +kernel, by decide +kernel⟩ rfl T ⟨by decide, by decide⟩ (nf _ (by simp))
theorem ioLoser : InitOk eLoser := fun F T nf => init1 F ⟨rfl, rfl, rfl, by decide +kernel, rfl, by decide +kernel, by decide +kernel⟩ rfl T ⟨by decide, by decide⟩ (nf _ (by simp))
theorem ioLeft : InitOk eLeft := fun F T nf => init1 F ⟨rfl, rfl, rfl, by decide +kernel, rfl, by decide +kernel, by decide +kernel⟩ rfl T ⟨by decide, by decide⟩ (nf _ (by simp))
theorem ioNoHand : InitOk eNoHand := fun F T nf => init1 F ⟨rfl, rfl, rfl, by decide +kernel, rfl, by decide +kernel, by decide +kernel⟩ rfl T ⟨by decide, by decide⟩ (nf _ (by simp))
theorem ioNoRow : InitOk eNoRow := fun F T nf => init1 F ⟨rfl, rfl, rfl, by decide +kernel, rfl, by decide +kernel, by decide +kernel⟩ rfl T ⟨by decide, by decide⟩ (nf _ (by simp))
theorem ioNotEven : InitOk eNotEven := fun F T nf => init1 F ⟨rfl, rfl, rfl, by decide +kernel, rfl, by decide +kernel, by decide +kernel⟩ rfl T ⟨by decide, by decide⟩ (nf _ (by simp))
theorem ioTooNarrow : InitOk eTooNarrow := fun F T nf => init1 F ⟨rfl, rfl, rfl, by decide +kernel, rfl, by decide +kernel, by decide +kernel⟩ rfl T ⟨by decide, by decide⟩ (nf _ (by simp))
theorem ioBeyond : InitOk eBeyond := fun F T nf => init1 F ⟨rfl, rfl, rfl, by decide +kernel, rfl, by decide +kernel, by decide +kernel⟩ rfl T ⟨by decide, by decide⟩ (nf _ (by simp))
theorem ioDone : InitOk eDone := fun F T nf => init1 F ⟨rfl, rfl, rfl, by decide +kernel, rfl, by decide +kernel, by decide +kernel⟩ rfl T ⟨by decide, by decide⟩ (nf _ (by simp))
theorem ioBroken : InitOk eBroken := fun F T nf => init1 F ⟨rfl, rfl, rfl, by decide +kernel, rfl, by decide +kernel, by decide +kernel⟩ rfl T ⟨by decide, by decide⟩ (nf _ (by simp))
theorem ioTwice : InitOk eTwice := fun F T nf => init1 F ⟨rfl, rfl, rfl, by decide +kernel, rfl, by decide +kernel, by decide +kernel⟩ rfl T ⟨by decide, by decide⟩ (nf _ (by simp))
theorem ioUnlike : InitOk eUnlike := fun F T nf => init1 F ⟨rfl, rfl, rfl, by decide +kernel, rfl, by decide +kernel, by decide +kernel⟩ rfl T ⟨by decide, by decide⟩ (nf _ (by simp))
theorem ioNotGood : InitOk eNotGood := fun F T nf => init1 F ⟨rfl, rfl, rfl, by decide +kernel, rfl, by decide +kernel, by decide +kernel⟩ rfl T ⟨by decide, by decide⟩ (nf _ (by simp))
theorem ioNotTwo : InitOk eNotTwo := fun F T nf => init1 F ⟨rfl, rfl, rfl, by decide +kernel, rfl, by decide +kernel, by decide +kernel⟩ rfl T ⟨by decide, by decide⟩ (nf _ (by simp))
theorem ioAhead : InitOk eAhead := fun F T nf => init2 F ⟨rfl, rfl, rfl, by decide +kernel, rfl, by decide +kernel, by decide +kernel⟩ rfl T ⟨by decide, by decide⟩ ⟨by decide, by decide⟩ (nf _ (by simp)) (nf _ (by simp))
theorem ioNotCoprime : InitOk eNotCoprime := fun F T nf => init2 F ⟨rfl, rfl, rfl, by decide +kernel, rfl, by decide +kernel, by decide +kernel⟩ rfl T ⟨by decide, by decide⟩ ⟨by decide, by decide⟩ (nf _ (by simp)) (nf _ (by simp))
theorem ioObjected : InitOk eObjected := fun F T nf => init2 F ⟨rfl, rfl, rfl, by decide +kernel, rfl, by decide +kernel, by decide +kernel⟩ rfl T ⟨by decide, by decide⟩ ⟨by decide, by decide⟩ (nf _ (by simp)) (nf _ (by simp))
theorem ioDrawnOut : InitOk eDrawnOut := fun F T nf => init2 F ⟨rfl, rfl, rfl, by decide +kernel, rfl, by decide +kernel, by decide +kernel⟩ rfl T ⟨by decide, by decide⟩ ⟨by decide, by decide⟩ (nf _ (by simp)) (nf _ (by simp))
theorem ioRing : InitOk eRing := fun F T nf => init2 F ⟨rfl, rfl, rfl, by decide +kernel, rfl, by decide +kernel, by decide +kernel⟩ rfl T ⟨by decide, by decide⟩ ⟨by decide, by decide⟩ (nf _ (by simp)) (nf _ (by simp))
theorem ioLeans : InitOk eLeans := fun F T nf => init2 F ⟨rfl, rfl, rfl, by decide +kernel, rfl, by decide +kernel, by decide +kernel⟩ rfl T ⟨by decide, by decide⟩ ⟨by decide, by decide⟩ (nf _ (by simp)) (nf _ (by simp))
theorem ioNoWay : InitOk eNoWay := fun F T nf => init2 F ⟨rfl, rfl, rfl, by decide +kernel, rfl, by decide +kernel, by decide +kernel⟩ rfl T ⟨by decide, by decide⟩ ⟨by decide, by decide⟩ (nf _ (by simp)) (nf _ (by simp))
theorem ioTooMany : InitOk eTooMany := fun F T nf => init2 F ⟨rfl, rfl, rfl, by decide +kernel, rfl, by decide +kernel, by decide +kernel⟩ rfl T ⟨by decide, by decide⟩ ⟨by decide, by decide⟩ (nf _ (by simp)) (nf _ (by simp))
theorem ioBadText : InitOk eBadText := fun F T nf => init2 F ⟨rfl, rfl, rfl, by decide +kernel, rfl, by decide +kernel, by decide +kernel⟩ rfl T ⟨by decide, by decide⟩ ⟨by decide, by decide⟩ (nf _ (by simp)) (nf _ (by simp))
theorem ioBadLine : InitOk eBadLine := fun F T nf => init2 F ⟨rfl, rfl, rfl, by decide +kernel, rfl, by decide +kernel, by decide +kernel⟩ rfl T ⟨by decide, by decide⟩ ⟨by decide, by decide⟩ (nf _ (by simp)) (nf _ (by simp))
theorem ioBelow : InitOk eBelow := fun F T nf => init3 F ⟨rfl, rfl, rfl, by decide +kernel, rfl, by decide +kernel, by decide +kernel⟩ rfl T ⟨by decide, by decide⟩ ⟨by decide, by decide⟩ ⟨by decide, by decide⟩ (nf _ (by simp)) (nf _ (by simp)) (nf _ (by simp))
theorem ioObjects : InitOk eObjects := fun F T nf => init3 F ⟨rfl, rfl, rfl, by decide +kernel, rfl, by decide +kernel, by decide +kernel⟩ rfl T ⟨by decide, by decide⟩ ⟨by decide, by decide⟩ ⟨by decide, by decide⟩ (nf _ (by simp)) (nf _ (by simp)) (nf _ (by simp))
theorem ioMissing : InitOk eMissing := fun F T nf => init1 F ⟨rfl, rfl, rfl, by decide +kernel, rfl, by decide +kernel, by decide +kernel⟩ rfl T ⟨by decide, by decide⟩ (nf _ (by simp))
theorem io_all : ∀ e ∈ tabF, InitOk e ∧ BdP e ∧ BdK e := by
  intro e he
  unfold tabF at he
  simp only [List.mem_cons, List.not_mem_nil, or_false] at he
  rcases he with rfl | rfl | rfl | rfl | rfl | rfl | rfl | rfl | rfl | rfl | rfl | rfl | rfl | rfl | rfl | rfl | rfl | rfl | rfl | rfl | rfl | rfl | rfl | rfl | rfl | rfl | rfl | rfl | rfl | rfl | rfl | rfl | rfl | rfl | rfl | rfl | rfl | rfl | rfl | rfl | rfl | rfl | rfl | rfl | rfl | rfl | rfl | rfl | rfl
  · exact ⟨ioBadRatio, bpBadRatio, bkBadRatio⟩
  · exact ⟨ioBadHandOver, bpBadHandOver, bkBadHandOver⟩
  · exact ⟨ioBadSwap, bpBadSwap, bkBadSwap⟩
  · exact ⟨ioBadBounds, bpBadBounds, bkBadBounds⟩
  · exact ⟨ioBadLeanings, bpBadLeanings, bkBadLeanings⟩
  · exact ⟨ioBadDeal, bpBadDeal, bkBadDeal⟩
  · exact ⟨ioBadRow, bpBadRow, bkBadRow⟩
  · exact ⟨ioBadDone, bpBadDone, bkBadDone⟩
  · exact ⟨ioBadCounts, bpBadCounts, bkBadCounts⟩
  · exact ⟨ioBadDial, bpBadDial, bkBadDial⟩
  · exact ⟨ioBadWay, bpBadWay, bkBadWay⟩
  · exact ⟨ioBadKeeper, bpBadKeeper, bkBadKeeper⟩
  · exact ⟨ioBadKeepers, bpBadKeepers, bkBadKeepers⟩
  · exact ⟨ioBadLaid, bpBadLaid, bkBadLaid⟩
  · exact ⟨ioBadChoice, bpBadChoice, bkBadChoice⟩
  · exact ⟨ioBadBook, bpBadBook, bkBadBook⟩
  · exact ⟨ioBadStory, bpBadStory, bkBadStory⟩
  · exact ⟨ioBadShare, bpBadShare, bkBadShare⟩
  · exact ⟨ioBadPlay, bpBadPlay, bkBadPlay⟩
  · exact ⟨ioBadNumber, bpBadNumber, bkBadNumber⟩
  · exact ⟨ioBadPaper, bpBadPaper, bkBadPaper⟩
  · exact ⟨ioNoStranger, bpNoStranger, bkNoStranger⟩
  · exact ⟨ioNoKeeper, bpNoKeeper, bkNoKeeper⟩
  · exact ⟨ioLoser, bpLoser, bkLoser⟩
  · exact ⟨ioLeft, bpLeft, bkLeft⟩
  · exact ⟨ioNoHand, bpNoHand, bkNoHand⟩
  · exact ⟨ioNoRow, bpNoRow, bkNoRow⟩
  · exact ⟨ioNotEven, bpNotEven, bkNotEven⟩
  · exact ⟨ioTooNarrow, bpTooNarrow, bkTooNarrow⟩
  · exact ⟨ioBeyond, bpBeyond, bkBeyond⟩
  · exact ⟨ioDone, bpDone, bkDone⟩
  · exact ⟨ioBroken, bpBroken, bkBroken⟩
  · exact ⟨ioTwice, bpTwice, bkTwice⟩
  · exact ⟨ioUnlike, bpUnlike, bkUnlike⟩
  · exact ⟨ioNotGood, bpNotGood, bkNotGood⟩
  · exact ⟨ioNotTwo, bpNotTwo, bkNotTwo⟩
  · exact ⟨ioAhead, bpAhead, bkAhead⟩
  · exact ⟨ioNotCoprime, bpNotCoprime, bkNotCoprime⟩
  · exact ⟨ioObjected, bpObjected, bkObjected⟩
  · exact ⟨ioDrawnOut, bpDrawnOut, bkDrawnOut⟩
  · exact ⟨ioRing, bpRing, bkRing⟩
  · exact ⟨ioLeans, bpLeans, bkLeans⟩
  · exact ⟨ioNoWay, bpNoWay, bkNoWay⟩
  · exact ⟨ioTooMany, bpTooMany, bkTooMany⟩
  · exact ⟨ioBadText, bpBadText, bkBadText⟩
  · exact ⟨ioBadLine, bpBadLine, bkBadLine⟩
  · exact ⟨ioBelow, bpBelow, bkBelow⟩
  · exact ⟨ioObjects, bpObjects, bkObjects⟩
  · exact ⟨ioMissing, bpMissing, bkMissing⟩
end K0

/-! The facts of the opened module, and all that they give. -/
namespace K0
open PySem PySem.Spec PyProof.Rows L2
open He

def factB (K : PySem.W.Frag) : Bool :=
  freeNames.all (fun x => eqO (PySem.W.nsIn K mainGlobals x) (some none)) && (eqO (PySem.W.nsIn K mainGlobals "gcd") (some (some (.builtin "math.gcd"))) &&
  (eqO (PySem.W.specialIn K (.builtin "object.__class__") "__get__") (some (some (.builtin "getset_descriptor.__get__"))) && (decide (PySem.W.takesIn K (.builtin "object.__class__") = some true) &&
  (all52.all (clsB K) && (tabF.all (mkB K) && (decide (adrs K).Nodup && (zeros.all (fun x => PySem.W.excIn K (ga K x) veBase "ValueError.__new__") && (lawNames.all (fun x => eqO (PySem.W.nsIn K mainGlobals x) (some (some (.ref (ga K x))))) &&
  ((Fa.cls "Ratio").ok K && ((Fa.noat "Ratio" "top").ok K && ((Fa.noat "Ratio" "bottom").ok K && ((Fa.mkr "Ratio").ok K && (eqO (PySem.W.findIn K (.ref (ga K "Ratio")) "__class__") (some (some (.builtin "object.__class__"))) &&
  (decide (PySem.W.mroIn K (ga K "Ratio") (.type "object") = some true) && (kinds7.all (fun T => decide (PySem.W.kitOne K (.type T) (.ref (ga K "Ratio")) = some false)) && ((Fa.meth "Ratio" "__str__").ok K && (Fa.meth "Ratio" "__repr__").ok K))))))))))))))))
def SaysK (K : PySem.W.Frag) : Prop := (factB K, obsD [] fns K) = (true, valD fns)
theorem def_mem {K : PySem.W.Frag} (c : SaysK K) {d : DefD} (h : d ∈ fns) : ∃ fd, FunD K d.name d.qual d.params d.body d.scope (d.dvs K) (d.kws K) (fAd K d.at_) fd := by
  obtain ⟨i, hi⟩ := List.getElem?_of_mem h
  exact SaysD.def_ (fa := []) (fn := fns) (show SaysD [] fns K from congrArg (fun z : Bool × AlD => z.2) c) i hi
theorem tabF_eq : tab.filter (fun e => !e.fl.isEmpty) ++ [eMissing] = tabF := rfl
theorem in_tabF {e : Ent} (h : e ∈ tab) (n : e.fl ≠ []) : e ∈ tabF := by
  rw [← tabF_eq]
  refine List.mem_append_left _ (List.mem_filter.mpr ⟨h, ?_⟩)
  cases q : e.fl with
  | nil => exact absurd q n
  | cons a l => rfl
theorem tabF_52 {e : Ent} (h : e ∈ tabF) : e ∈ all52 := by
  rw [← tabF_eq] at h
  rcases List.mem_append.mp h with h | h
  · exact List.mem_append_left _ (List.mem_filter.mp h).1
  · exact List.mem_append_right _ (by simp at h; rw [h]; exact .head _)
section
variable {P : Program} {w : World} {K : PySem.W.Frag} {mg : Str → Option Value} {base : Heap}
theorem says_in (c : SaysK K) (X : K.In base) (N : base.Ns mainGlobals mg) : ∃ fd, DefAt K "law" "law" sLaw (ga K "law") fd ∧ LawIn P w K mg base (ga K "Ratio") := by
  have fb : factB K = true := congrArg (fun z : Bool × AlD => z.1) c
  obtain ⟨b1, fb⟩ := ba fb
  obtain ⟨b2, fb⟩ := ba fb
  obtain ⟨b3, fb⟩ := ba fb
  obtain ⟨b4, fb⟩ := ba fb
  obtain ⟨b5, fb⟩ := ba fb
  obtain ⟨b6, fb⟩ := ba fb
  obtain ⟨b7, fb⟩ := ba fb
  obtain ⟨b8, fb⟩ := ba fb
  obtain ⟨b9, fb⟩ := ba fb
  obtain ⟨b10, fb⟩ := ba fb
  obtain ⟨b11, fb⟩ := ba fb
  obtain ⟨b12, fb⟩ := ba fb
  obtain ⟨b13, fb⟩ := ba fb
  obtain ⟨b14, fb⟩ := ba fb
  obtain ⟨b15, fb⟩ := ba fb
  obtain ⟨b16, fb⟩ := ba fb
  obtain ⟨b17, b18⟩ := ba fb
  have fr : ∀ x ∈ freeNames, mg x = none := fun x hx => PySem.W.mg_none_of X N (eqO_ok (List.all_eq_true.mp b1 x hx))
  have gl : ∀ x ∈ lawNames, mg x = some (.ref (ga K x)) := fun x hx => PySem.W.mg_of X N (eqO_ok (List.all_eq_true.mp b9 x hx))
  have G : Glob mg := ⟨fr _ (by simp [freeNames]), fr _ (by simp [freeNames]), fr _ (by simp [freeNames]), fr _ (by simp [freeNames]), fr _ (by simp [freeNames]), fr _ (by simp [freeNames]), fr _ (by simp [freeNames]), fr _ (by simp [freeNames]), fr _ (by simp [freeNames]),
    fr _ (by simp [freeNames]), fr _ (by simp [freeNames]), fr _ (by simp [freeNames]), fr _ (by simp [freeNames]), fr _ (by simp [freeNames]), fr _ (by simp [freeNames]), PySem.W.mg_of X N (eqO_ok b2)⟩
  have O : Obj2 K := ⟨eqO_ok b3, of_decide_eq_true b4⟩
  have cf : ∀ e ∈ all52, ClsF K e := fun e he => clsB_ok O (List.all_eq_true.mp b5 e he)
  have nd : (adrs K).Nodup := of_decide_eq_true b7
  have mf : ∀ e ∈ tabF, MkF P w K mg base e := fun e he => by
    have F := cf e (tabF_52 he)
    obtain ⟨m1, m2⟩ := ba (List.all_eq_true.mp b6 e he)
    obtain ⟨fd, D⟩ := def_mem c (d := mkE e) (List.mem_append_right _ (List.mem_map.mpr ⟨e, he, rfl⟩))
    obtain ⟨io, _, _⟩ := io_all e he
    exact ⟨PySem.W.mg_of X N F.gl, F.x.o, _, fd, eqO_ok m1, of_decide_eq_true m2, D, io D F.x.o F.nf⟩
  have mz : ∀ e ∈ all52, e.x ∈ zeros → MkZ K mg e.x := fun e he hz => by
    have F := cf e he
    exact ⟨PySem.W.mg_of X N F.gl, List.all_eq_true.mp b8 _ hz, F.x.o.kC⟩
  have t52 : ∀ {n : Nat} {e : Ent}, tab[n]? = some e → e ∈ all52 := fun h => List.mem_append_left _ (List.mem_of_getElem? h)
  have mM : eMissing ∈ all52 := List.mem_append_right _ (.head _)
  have mL : eLastError ∈ all52 := List.mem_append_right _ (.tail _ (.head _))
  have M : Mks P w K mg base := ⟨fun i e h n => mf e (in_tabF (List.mem_of_getElem? h) n), mf eMissing (by rw [← tabF_eq]; simp), mz eAlone (t52 (n := 48) rfl) (by simp [zeros]), mz eNoDeed (t52 (n := 49) rfl) (by simp [zeros]), mz eLastError mL (by simp [zeros])⟩
  have kin : ∀ (n : Nat) (e : Ent), tab[n]? = some e → ClsOk K e ∧ Kin2 K (e.C K) n := fun n e he => by
    have F := cf e (t52 he)
    refine ⟨⟨F.x, F.nf⟩, ⟨⟨fun j d hd => ?_, ?_, kit_type F (by decide +kernel) (by decide +kernel)⟩, ?_, kit_type F (by decide +kernel) (by decide +kernel), kit_type F (by decide +kernel) (by decide +kernel), kit_type F (by decide +kernel) (by decide +kernel), kit_type F (by decide +kernel) (by decide +kernel), kit_type F (by decide +kernel) (by decide +kernel)⟩⟩
    · rw [kit_own F (cf d (t52 hd)), kin_tab nd he hd]
    · rw [show ga K "LastError" = eLastError.C K from rfl, kit_own F (cf _ mL), decide_eq_true (last_in he)]
    · rw [show ga K "Missing" = eMissing.C K from rfl, kit_own F (cf _ mM), kin_mis nd he]
  have kM : Kin K (eMissing.C K) 50 := ⟨fun j d hd => by rw [kit_own (cf _ mM) (cf d (t52 hd)), (kin_M nd hd).1], by rw [show ga K "LastError" = eLastError.C K from rfl, kit_own (cf _ mM) (cf _ mL), decide_eq_true (.tail _ (.head _))], kit_type (cf _ mM) (by decide +kernel) (by decide +kernel)⟩
  have kL : Kin K (eLastError.C K) 50 := ⟨fun j d hd => by rw [kit_own (cf _ mL) (cf d (t52 hd)), (kin_M nd hd).2], by rw [show ga K "LastError" = eLastError.C K from rfl, kit_own (cf _ mL) (cf _ mL), decide_eq_true (.head _)], kit_type (cf _ mL) (by decide +kernel) (by decide +kernel)⟩
  -- the defs
  have df : ∀ (i : Nat) (x : Str) (st : Stmt), fns0[i]? = some (topD x st) → ∃ fd, DefAt K x x st (ga K x) fd := fun i x st h => def_mem c (d := topD x st) (List.mem_append_left _ (List.mem_of_getElem? h))
  obtain ⟨dI, FI⟩ := df 3 "is_integer" sIsInt rfl
  obtain ⟨d1, F1⟩ := df 4 "_law_pail" sPail rfl
  obtain ⟨d2, F2⟩ := df 5 "_law_dip" sDip rfl
  obtain ⟨d3, F3⟩ := df 6 "_law_parts" sParts rfl
  obtain ⟨d4, F4⟩ := df 7 "_law_parts_turned" sPartsT rfl
  obtain ⟨d5, F5⟩ := df 8 "_law_others" sOthers rfl
  obtain ⟨d6, F6⟩ := df 9 "_law_others_named" sOthersN rfl
  obtain ⟨d7, F7⟩ := df 10 "_law_one_field" sOne rfl
  obtain ⟨d8, F8⟩ := df 11 "_law_fields" sFields rfl
  obtain ⟨d9, F9⟩ := df 12 "_law_kin" sKin rfl
  obtain ⟨d10, F10⟩ := df 13 "_law_stands_right" sStands rfl
  obtain ⟨d11, F11⟩ := df 14 "_law_all_right" sAll rfl
  obtain ⟨d12, F12⟩ := df 15 "law" sLaw rfl
  obtain ⟨dR, FR⟩ := def_mem c (d := mkD ("Ratio", some "__init__") "__init__" "Ratio.__init__" sRInit [.int 1]) (List.mem_append_left _ (List.mem_of_getElem? (i := 0) rfl))
  obtain ⟨dS, FS⟩ := def_mem c (d := mkD ("Ratio", some "__str__") "__str__" "Ratio.__str__" sRStr) (List.mem_append_left _ (List.mem_of_getElem? (i := 1) rfl))
  obtain ⟨dP, FP⟩ := def_mem c (d := mkD ("Ratio", some "__repr__") "__repr__" "Ratio.__repr__" sRRepr) (List.mem_append_left _ (List.mem_of_getElem? (i := 2) rfl))
  have FP' : DefAt K "__repr__" "Ratio.__repr__" sRRepr (ma K (ga K "Ratio") "__repr__") dP := FP
  have bind1 : ∀ {x qual : Str} {st : Stmt} {f : Addr} {fd : FuncData} {ps : List Str}, DefAt K x qual st f fd →
      (∀ (kV doc pm : Value) (an : Option Addr) (cdv ct : Value) (us : List Value), us.length = ps.length → bindArgs (PySem.W.fnOf x qual (defArgs st) (defBody st) (defScope st) .none kV doc pm an cdv ct) ⟨us, []⟩ = pure (ps.zip us)) → Binds K fd ps [] := fun F h => F.bindsN h
  have RT : RTxt K (ga K "Ratio") := ⟨cls_ok b10, noat_ok b11, noat_ok b12⟩
  have mkr := mkr_ok b13
  have k7 : ∀ T ∈ kinds7, PySem.W.kitOne K (.type T) (.ref (ga K "Ratio")) = some false := fun T hT => of_decide_eq_true (List.all_eq_true.mp b16 T hT)
  obtain ⟨s1, s2⟩ := ba b17
  obtain ⟨s2, s3⟩ := ba s2
  obtain ⟨p1, p2⟩ := ba b18
  obtain ⟨p2, p3⟩ := ba p2
  have okP : FnOk P w K mg base CX0 4 (ma K (ga K "Ratio") "__repr__") dP ["self"] (spRepr (ga K "Ratio") (RatP (ga K "Ratio"))) := ok_rrepr G RT FP FS (eqO_ok s1) s2
  have RC : RatC P w K mg base (ga K "Ratio") := ⟨cls_ok b10, eqO_ok b14, O.hn, O.ht, of_decide_eq_true b15, k7 _ (by simp [kinds7]), k7 _ (by simp [kinds7]), k7 _ (by simp [kinds7]), k7 _ (by simp [kinds7]), k7 _ (by simp [kinds7]), k7 _ (by simp [kinds7]), k7 _ (by simp [kinds7]),
    _, dP, okP, bind1 FP' (fun _ _ _ _ _ _ us hl => match us, hl with | [_], _ => rfl), eqO_ok p1, p2⟩
  have okR : FnOk P w K mg base CX0 2 (ma K (ga K "Ratio") "__init__") dR ["self", "top", "bottom"] (spRI (ga K "Ratio")) := ok_rinit (dv := [.int 1]) G RT FR FI (gl _ (by simp [lawNames]))
  have bR0 : ∃ ds, Vals [] ds ∧ Binds K dR ["self", "top", "bottom"] ds := FR.binds1 3 1 (List.cons_ne_nil _ _) rfl fun T kV doc pm an cdv ct us its hu hi => match us, its, hu, hi with
    | [_, _, _], [_], _, _ => ⟨_, rfl, rfl⟩
  have bR1 : ∃ ds, Vals [.int 1] ds ∧ Binds K dR ["self", "top", "bottom"] ds := FR.binds1 2 0 (List.cons_ne_nil _ _) rfl fun T kV doc pm an cdv ct us its hu hi => match us, its, hu, hi with
    | [_, _], [_], _, _ => ⟨_, rfl, rfl⟩
  have b1' : ∀ {us : List Value}, us.length = ["_law_error", "_law_place"].length → True := fun _ => trivial
  have q9 : Binds K d9 ["_law_error"] [] := bind1 F9 fun _ _ _ _ _ _ us hl => match us, hl with | [_], _ => rfl
  have q8 : Binds K d8 ["_law_error", "_law_place"] [] := bind1 F8 fun _ _ _ _ _ _ us hl => match us, hl with | [_, _], _ => rfl
  have q10 : Binds K d10 ["_law_error", "_law_place"] [] := bind1 F10 fun _ _ _ _ _ _ us hl => match us, hl with | [_, _], _ => rfl
  have AI : AllIn P w K mg base (ga K "Ratio") := ⟨G, gl _ (by simp [lawNames]), ⟨_, d8, gl _ (by simp [lawNames]), F8.kp, ok_fields (gl _ (by simp [lawNames])) F7.kp F7 F8, q8⟩,
    ⟨_, d10, gl _ (by simp [lawNames]), F10.kp, ok_stands G M (gl _ (by simp [lawNames])) F9.kp F9 F10, q10⟩, kin⟩
  refine ⟨d12, F12, ⟨G, gl _ (by simp [lawNames]), RC, ⟨_, dR, mkr, okR, bR0, bR1⟩, M, (cf _ mM).x, (cf _ mM).nf _ (.head _), kM, (cf _ mL).x, kL,
    ⟨_, d1, gl _ (by simp [lawNames]), F1.kp, ok_pail G F1, bind1 F1 fun _ _ _ _ _ _ us hl => match us, hl with | [_], _ => rfl⟩,
    ⟨_, d2, gl _ (by simp [lawNames]), F2.kp, ok_dip F2, bind1 F2 fun _ _ _ _ _ _ us hl => match us, hl with | [_, _], _ => rfl⟩,
    ⟨_, d3, gl _ (by simp [lawNames]), F3.kp, ok_parts M F3, bind1 F3 fun _ _ _ _ _ _ us hl => match us, hl with | [_], _ => rfl⟩,
    ⟨_, d4, gl _ (by simp [lawNames]), F4.kp, ok_partst M F4, bind1 F4 fun _ _ _ _ _ _ us hl => match us, hl with | [_], _ => rfl⟩,
    ⟨_, d5, gl _ (by simp [lawNames]), F5.kp, ok_others M F5, bind1 F5 fun _ _ _ _ _ _ us hl => match us, hl with | [_, _, _], _ => rfl⟩,
    ⟨_, d6, gl _ (by simp [lawNames]), F6.kp, ok_othersn M F6, bind1 F6 fun _ _ _ _ _ _ us hl => match us, hl with | [_, _, _], _ => rfl⟩,
    ⟨_, d9, gl _ (by simp [lawNames]), F9.kp, ok_kin G M F9, q9⟩,
    ⟨_, d11, gl _ (by simp [lawNames]), F11.kp, ok_all AI F11, bind1 F11 fun _ _ _ _ _ _ us hl => match us, hl with | [_, _], _ => rfl⟩⟩⟩
end
end K0
namespace K0
open PySem PySem.Spec PyProof.Rows L2
abbrev obK (K : PySem.W.Frag) : Bool × He.AlD := (factB K, He.obsD [] fns K)
theorem fact_of {K : PySem.W.Frag} (h1 : factB1 K = true) (h2 : factB2 K = true) : factB K = true := by
  obtain ⟨a1, h1⟩ := He.ba h1
  obtain ⟨a2, h1⟩ := He.ba h1
  obtain ⟨a3, h1⟩ := He.ba h1
  obtain ⟨a4, a5⟩ := He.ba h1
  have ab : ∀ {a b : Bool}, a = true → b = true → (a && b) = true := fun x y => by rw [x, y]; rfl
  exact ab a1 (ab a2 (ab a3 (ab a4 (ab a5 h2))))
theorem obs_app {K : PySem.W.Frag} {l m : List He.DefD} (h1 : He.obsD [] l K = He.valD l) (h2 : He.obsD [] m K = He.valD m) : He.obsD [] (l ++ m) K = He.valD (l ++ m) := by
  have a1 : l.all (fun d => d.ok K) = true := congrArg (fun z : He.AlD => z.1) h1
  have a2 : l.map (fun d => He.fnW K d.at_) = l.map He.DefD.val := congrArg (fun z : He.AlD => z.2) h1
  have b1 : m.all (fun d => d.ok K) = true := congrArg (fun z : He.AlD => z.1) h2
  have b2 : m.map (fun d => He.fnW K d.at_) = m.map He.DefD.val := congrArg (fun z : He.AlD => z.2) h2
  refine Prod.ext ?_ ?_
  · show (true && (l ++ m).all fun d => d.ok K) = true
    rw [List.all_append, a1, b1]
    rfl
  · show (l ++ m).map (fun d => He.fnW K d.at_) = (l ++ m).map He.DefD.val
    rw [List.map_append, List.map_append, a2, b2]
def hk : PySem.W.Hook where
  α := Bool × He.AlD
  obs := fun s => obK (He.frG s.heap.get? adl)
  val := fun _ => (true, He.valD fns)
  says := fun _ h => ∃ K : PySem.W.Frag, K.In h ∧ SaysK K
  of := fun _ _ e => ⟨_, He.frG_in, e⟩
  keeps := fun _ _ _ ⟨K, hK, c⟩ k => ⟨K, PySem.W.Frag.In.keeps hK k, c⟩
def ob (s : PySem.W.SharedT) : Bool × He.AlD := obK (oF s)
theorem ob_eq (s : PySem.W.SharedT) : ob s = hk.obs s.abs := by
  have e : HandSHeadRun.getT s = s.abs.heap.get? := funext (HandSHeadRun.getT_eq s)
  show obK _ = obK _
  unfold oF
  rw [e]
theorem run (w : World) : HandSHeadRun.RunEqI R (PySem.W.view R.prog [0, 79]) hk ob 40000 loose w := by
  have a1 := runA1 w
  have a2 := runA2 w
  have b := runB1 w
  have b' := runB2 w
  have d1 := runD1 w
  have d2 := runD2 w
  have d3 := runD3 w
  obtain ⟨x, hx, e1⟩ := Option.map_eq_some_iff.mp a1
  rw [hx] at a2 b b' d1 d2 d3
  have e2 := Option.some.inj a2
  have e3 := fact_of (Option.some.inj b) (Option.some.inj b')
  have e4 := Option.some.inj d1
  have e5 := Option.some.inj d2
  have e6 := Option.some.inj d3
  have ed : He.obsD [] fns (oF x.2) = He.valD fns := by
    have z := obs_app e5 e6
    have zz : (fns.drop 22).take 22 ++ fns.drop 44 = fns.drop 22 := by
      rw [show fns.drop 44 = (fns.drop 22).drop 22 by rw [List.drop_drop], List.take_append_drop]
    rw [zz] at z
    have y := obs_app e4 z
    rw [List.take_append_drop] at y
    exact y
  unfold HandSHeadRun.RunEqI
  show (wf w).map _ = _
  rw [hx]
  refine congrArg some (Prod.ext e1 (Prod.ext e2 ?_))
  exact Prod.ext e3 ed
theorem facts {P : Program} {w : World} {K : PySem.W.Frag} {h : Heap} {mg : Str → Option Value} {f : Addr} (X : K.In h) (G : h.Ns mainGlobals mg) (hfa : mg ("law" : Str) = some (.ref f)) (c : SaysK K) :
    ∃ fd : FuncData, (∀ (s : Shared) (v : Value), BindsTo s fd ⟨[v], []⟩ [("_law_script", v)]) ∧ ∀ base : Heap, K.In base → base.Ns mainGlobals mg → FnG P w K mg base 24 f fd ["_law_script"] (spLaw K) := by
  have fb : factB K = true := congrArg (fun z : Bool × He.AlD => z.1) c
  obtain ⟨fd, F, _⟩ := says_in (P := P) (w := w) c X G
  have e : mg ("law" : Str) = some (.ref (He.ga K "law")) := by
    obtain ⟨_, fb⟩ := He.ba fb
    obtain ⟨_, fb⟩ := He.ba fb
    obtain ⟨_, fb⟩ := He.ba fb
    obtain ⟨_, fb⟩ := He.ba fb
    obtain ⟨_, fb⟩ := He.ba fb
    obtain ⟨_, fb⟩ := He.ba fb
    obtain ⟨_, fb⟩ := He.ba fb
    obtain ⟨_, fb⟩ := He.ba fb
    obtain ⟨b9, fb⟩ := He.ba fb
    exact PySem.W.mg_of X G (He.eqO_ok (List.all_eq_true.mp b9 "law" (by simp [lawNames])))
  obtain rfl : He.ga K "law" = f := by
    rw [e] at hfa
    exact Value.ref.inj (Option.some.inj hfa)
  have b := FunD.bindsA (ps := ["_law_script"]) F fun _ _ _ _ _ _ us hl => match us, hl with | [_], _ => rfl
  refine ⟨fd, fun s v => b s [v] rfl, fun base XB NB => ?_⟩
  obtain ⟨fd', F', L⟩ := says_in (P := P) (w := w) c XB NB
  exact ok_law L F
/-- the walk's end, for a def where no guard runs -/
theorem walkG {l : PySem.W.OpenLaw} {n k : Nat} {q : Program} {loose : List Str} {XP : (Str → Option Value) → Heap → Prop} {YP : World → Heap → Prop} {d : DefRec} {x : Str}
    (hn : l.most = some n) (hn2 : n ≤ sizeLine) (hdf : d.params.defaults = []) (hr : Room k callerA)
    (F : ∀ (w : World) (mg : Str → Option Value) (fa : Addr) (h : Heap), YP w h → h.Ns mainGlobals mg → mg d.name = some (.ref fa) →
      ∃ (K : PySem.W.Frag) (fd : FuncData) (sp : Sp), K.In h ∧ (∀ (s : Shared) (u : Value), BindsTo s fd ⟨[u], []⟩ [(x, u)]) ∧
        (∀ (H : Hp) (a : Addr) (ns : List Int), ns.length ≤ n → Only H → SqL K H a (ns.map V.int) → sp [.ref a] H (fun v _ => v = .bl true) E0) ∧
        ∀ base : Heap, K.In base → base.Ns mainGlobals mg → FnG l.prog w K mg base k fa fd [x] sp) :
    PySem.W.WalkO q loose XP YP l.row.toRowW d [] (fun f vs => PySem.call f vs) := by
  refine Att.attach_call hn hdf fun w s₀ s₁ mg mb fa o pm cd doc a vs ns G Y ho hd hcd hmg hobj hints hlen hg => ?_
  obtain ⟨K, fd, sp, KX, hb, hsp, hF⟩ := F w mg fa _ Y G.T.g hmg
  exact lawG_call KX G.T.g G.T.b G.T.builtins G.T.nolimit hg hobj hints (Nat.le_trans hlen hn2) hr hF hb fun H hO hS => hsp H a ns hlen hO hS
end K0
open PySem PySem.W PySem.Calls PyProof.Rows
theorem PySem.Challenge.cw_lastgiver_k00_errors_keep_their_fields_holds : PySem.Challenge.rw_lastgiver_k00_errors_keep_their_fields.Holds := by
  w_on; o_law
  refine HandSHeadRun.head_imp (r := K0.R) (q := view K0.R.prog [0, 79]) (H := K0.hk) (ob := K0.ob) (M := 40000) (loose := K0.loose) (d := HandSHeadRun.topDef K0.R.prog 79) (kwd := []) K0.ob_eq
    K0.run (by kernel_rfl) (by kernel_rfl) (by kernel_rfl) (by rfl) (by first | assumption | decide +kernel) (by decide +kernel) ⟨rfl, rfl, rfl, rfl, rfl, by decide +kernel⟩ ?hw ?hc
  case hw => w_witness2
  case hc =>
    refine K0.walkG (l := PySem.Challenge.rw_lastgiver_k00_errors_keep_their_fields) (n := 63) (k := 24) (x := "_law_script") rfl (by decide) (by kernel_rfl) ⟨rfl, by decide, by decide⟩ ?F
    intro w mg fa h Y G hmg0
    obtain ⟨K, KX, c⟩ := Y
    have hmg : mg ("law" : PySem.Str) = some (.ref fa) := by
      have e : (HandSHeadRun.topDef K0.R.prog 79).name = ("law" : PySem.Str) := by kernel_rfl
      rw [← e]
      exact hmg0
    obtain ⟨fd, hb, hF⟩ := K0.facts (P := K0.R.prog) (w := w) KX G hmg c
    exact ⟨K, fd, K0.spLaw K, KX, hb, fun H a ns hl _ hS => ⟨a, ns, rfl, hS, hl, fun _ => rfl⟩, hF⟩
