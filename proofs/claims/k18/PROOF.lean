import PyProof.Rows.All
import Wide.All
import OpenK.AllK
import Wide.FinOn
import PySem.Challenge.RW_ringshares_k18_whole_shares_of_great_rin
import PyProof.EqAt
import PyProof.EqKinds
import PyProof.TupleCall
import PyProof.ReprReads
import HandS.Base
import HandS.Call
import HandS.List
import HandS.Comp
import HandS.Ends
import HandS.Exc
import HandS.Words
import HandS.TupAny
import HandS.Style
import HandS.NoneIn
import HandS.Iter
import HandS.Text
import HandS.CallSlots
import HandS.Defaults
import HandS.WordsExc
import HandS.Dict
import HandS.SortInts
import HandS.Property
import HandS.MakeKw
import HandS.IsInst
import HandS.Zip
import HandS.OwnEq
import HandS.SortRule
import OpenK.KMeth
import KE.GoesMore
import KE.GoesEnum
import HandS.SortOrd
import HandS.MakeKwOnly
import HandS.ClsMeth
import HandS.DictComp
import HandS.CallLocal
import HandS.TryOnly
import HandS.More
import HandS.FStr
import KE.KCallOwn
import PyProof.Conv_bool
import KE.KRevSl
import HandS.Wide
import HandS.Deep
import HandS.Conv
import HandS.SortKw
import HandS.Rev
import HandS.SetFor
import HandS.Strs
import KE.KDictZip
import HandS.TupSets
import PyProof.Rows.CountFlat
import KE.KSortTupAny
import HandS.Head0
import HandS.Head1
import HandS.Head2
import HandS.HeadEnd
import HandS.HeadHook1
import HandS.HeadHook2
import HandS.HeadHook3
import HandS.HeadHook4
import HandS.EndBits
import KE.KStateDown
import HandS.HeadNt
set_option Elab.async false
set_option linter.all false
namespace DL
end DL
namespace R
end R
set_option maxRecDepth 100000
set_option maxHeartbeats 4000000
namespace DLH
open PySem PySem.W PySem.Calls PyProof.Rows He He5
def obsR (fa : List Fa) (fn : List DefA) (ex : Frag → Bool) (K : Frag) : AlD := (((fa.all fun f => f.ok K) && fn.all fun d => d.ok K) && ex K, fn.map fun d => He5.fnA K (d.at_ K))
def valR (fn : List DefA) : AlD := (true, fn.map DefA.val)
def SaysR (fa : List Fa) (fn : List DefA) (ex : Frag → Bool) (K : Frag) : Prop := obsR fa fn ex K = valR fn
def obsRG (n : Nat) (fa : List Fa) (fn : List DefA) (ex : Frag → Bool) (g : Addr → Option Obj) : AlD := obsR fa fn ex (frT g (asA g n))
def hookR (n : Nat) (fa : List Fa) (fn : List DefA) (ex : Frag → Bool) : PySem.W.Hook where
  α := AlD
  obs := fun s => obsRG n fa fn ex s.heap.get?
  val := fun _ => valR fn
  says := fun _ h => ∃ K : Frag, K.In h ∧ SaysR fa fn ex K
  of := fun _ _ e => ⟨_, frT_in, e⟩
  keeps := fun _ _ _ ⟨K, hK, c⟩ k => ⟨K, Frag.In.keeps hK k, c⟩
theorem obsRG_eq {n : Nat} {fa : List Fa} {fn : List DefA} {ex : Frag → Bool} {g : Addr → Option Obj} {s : Shared} (h : ∀ a, g a = s.heap.get? a) : obsRG n fa fn ex g = (hookR n fa fn ex).obs s := by
  have e : g = s.heap.get? := funext h
  rw [e] <;> rfl
section
variable {fa : List Fa} {fn : List DefA} {ex : Frag → Bool} {K : Frag}
theorem SaysR.fact (c : SaysR fa fn ex K) (i : Nat) {f : Fa} (h : fa[i]? = some f := by rfl) : f.ok K = true := by
  have c0 := (ba (show (((fa.all fun f => f.ok K) && fn.all fun d => d.ok K) && ex K) = true from congrArg (fun z : AlD => z.1) c)).1
  exact List.all_eq_true.mp (ba c0).1 f (List.mem_of_getElem? h)
theorem SaysR.more (c : SaysR fa fn ex K) : ex K = true := (ba (show (((fa.all fun f => f.ok K) && fn.all fun d => d.ok K) && ex K) = true from congrArg (fun z : AlD => z.1) c)).2
theorem SaysR.def_ (c : SaysR fa fn ex K) (i : Nat) {d : DefA} (h : fn[i]? = some d := by rfl) : ∃ fd, L2.FunD K d.name d.qual d.params d.body d.scope (d.dvs K) (d.kws K) (d.at_ K) fd := by
  have c0 := (ba (show (((fa.all fun f => f.ok K) && fn.all fun d => d.ok K) && ex K) = true from congrArg (fun z : AlD => z.1) c)).1
  have e : fn.map (fun d => He5.fnA K (d.at_ K)) = fn.map DefA.val := congrArg (fun z : AlD => z.2) c
  have e2 : (fn.map fun d => He5.fnA K (d.at_ K))[i]? = (fn.map DefA.val)[i]? := by rw [e]
  rw [List.getElem?_map, List.getElem?_map, h] at e2
  exact DefA.funD (Option.some.inj e2) (List.all_eq_true.mp (ba c0).2 d (List.mem_of_getElem? h))
end
def atG (x : PySem.Str) (K : Frag) : Addr := ga K x
def atM (x m : PySem.Str) (K : Frag) : Addr := ma K (ga K x) m
/-- a property's getter -/
def atP (x m : PySem.Str) (K : Frag) : Addr := wf K (ga K x) "property" m
/-- a classmethod's def -/
def atC (x m : PySem.Str) (K : Frag) : Addr := wf K (ga K x) "classmethod" m
def propB (K : Frag) (x m : PySem.Str) : Bool := eqO (findIn K (.ref (ga K x)) m) (some (some (.ref (ma K (ga K x) m)))) && (eqO (specialIn K (.ref (ma K (ga K x) m)) "__get__") (some (some (.builtin "property.__get__"))) && (decide (takesIn K (.ref (ma K (ga K x) m)) = some true) && (match recIn K (ma K (ga K x) m) "property" with
    | some (.ref _ :: _) => true
    | _ => false)))
theorem propB_ok {K : Frag} {x m : PySem.Str} (h : propB K x m = true) : L2.PropOf K (ga K x) m (ma K (ga K x) m) (atP x m K) := by
  obtain ⟨h1, h⟩ := ba h
  obtain ⟨h2, h⟩ := ba h
  obtain ⟨h3, h4⟩ := ba h
  refine ⟨eqO_ok h1, eqO_ok h2, of_decide_eq_true h3, ?_⟩
  unfold atP wf
  split at h4
  · rename_i f r e
    exact ⟨r, by rw [e]⟩
  · cases h4
def cmB (K : Frag) (x m : PySem.Str) : Bool := readsIn K (ga K x) (.type "type") && (eqO (specialIn K (.ref (ga K x)) "__getattribute__") (some (some (.builtin "type.__getattribute__"))) && (wrapB K (ga K x) "classmethod" "classmethod.__get__" m && fnIn K (atC x m K)))
theorem cmB_ok {K : Frag} {x m : PySem.Str} (h : cmB K x m = true) : ClX.CRead K (ga K x) (.type "type") ∧ ClX.CMet K (ga K x) (.type "type") m (ma K (ga K x) m) (atC x m K) := by
  obtain ⟨h1, h⟩ := ba h
  obtain ⟨h2, h⟩ := ba h
  obtain ⟨h3, h4⟩ := ba h
  exact ⟨⟨h1, eqO_ok h2⟩, cmet_of h3 h4⟩
def isB (K : Frag) (x : PySem.Str) : Bool := eqO (findIn K (.ref (ga K x)) "__class__") (some (some (.builtin "object.__class__"))) && (eqO (specialIn K (.builtin "object.__class__") "__get__") (some (some (.builtin "getset_descriptor.__get__"))) && (decide (takesIn K (.builtin "object.__class__") = some true) && (decide (mroIn K (ga K x) (.type "object") = some true) &&
  ["NoneType", "bool", "int", "str", "list", "tuple", "dict"].all fun t => decide (kitOne K (.type t) (.ref (ga K x)) = some false))))
end DLH
namespace L18
open PySem PySem.Spec PyProof.Rows L2
def top (i : Nat) : Stmt := PySem.Challenge.pw_ringshares_k18_whole_shares_of_great_rin.main.body.getD i (.Pass ⟨0, 0, 0, 0⟩)
def clsB (s : Stmt) (i : Nat) : Stmt := match s with
  | .ClassDef _ _ _ b _ _ _ _ _ _ _ => b.getD i (.Pass ⟨0, 0, 0, 0⟩)
  | _ => .Pass ⟨0, 0, 0, 0⟩
abbrev s_filled : Stmt := top 55
abbrev s_dip : Stmt := top 56
abbrev s_free : Stmt := top 62
abbrev s_borders : Stmt := top 73
abbrev s_far : Stmt := top 71
abbrev s_keep : Stmt := top 72
abbrev s_parted : Stmt := top 74
abbrev s_is_ascending : Stmt := top 25
abbrev s_is_whole : Stmt := top 21
abbrev s_is_name : Stmt := top 24
abbrev s_is_word_of : Stmt := top 23
abbrev s_all_marks : Stmt := top 48
abbrev s_arcs_up_to : Stmt := top 46
abbrev s_check_ring : Stmt := top 42
abbrev s_Ring_hosts : Stmt := clsB (top 41) 8
abbrev s_Ring_factor : Stmt := clsB (top 41) 3
abbrev s_Ring_spread : Stmt := clsB (top 41) 4
abbrev s_ahead : Stmt := top 44
abbrev s_Ring_points : Stmt := clsB (top 41) 2
abbrev s_Ring__way : Stmt := clsB (top 41) 22
abbrev s_Ring_names : Stmt := clsB (top 41) 9
abbrev s_sheet : Stmt := top 69
abbrev s_is_written_number : Stmt := top 26
abbrev s_of : Stmt := top 57
abbrev s_vast : Stmt := top 58
abbrev s_counted : Stmt := top 75
abbrev s_is_from_to : Stmt := top 22
abbrev s_is_free_name : Stmt := top 32
abbrev s_firsts : Stmt := top 76
abbrev s_written_number : Stmt := top 27
abbrev s_place : Stmt := top 63
abbrev s_title : Stmt := top 59
abbrev s_rule : Stmt := top 65
abbrev s_are_free_marks : Stmt := top 31
abbrev s_new_racks_first : Stmt := top 37
abbrev s_check_point : Stmt := top 35
abbrev s_Ring___contains__ : Stmt := clsB (top 41) 13
abbrev s_written_host : Stmt := top 40
abbrev s_width : Stmt := top 67
abbrev s_titles : Stmt := top 60
abbrev s_is_next_host : Stmt := top 33
abbrev s_keepers_in : Stmt := top 38
abbrev s_Ring_walk : Stmt := clsB (top 41) 16
abbrev s_check_name : Stmt := top 36
abbrev s_yards : Stmt := top 61
abbrev s_check_hosts : Stmt := top 34
abbrev s_walks : Stmt := top 45
abbrev s_band : Stmt := top 64
abbrev s_Ring___init__ : Stmt := clsB (top 41) 0
abbrev s_keepers_at : Stmt := top 47
abbrev s_build : Stmt := top 66
abbrev s_cells : Stmt := top 49
abbrev s_plain : Stmt := top 70
abbrev s_shares : Stmt := top 52
abbrev s_leads : Stmt := top 51
abbrev s_Ring_read : Stmt := clsB (top 41) 1
abbrev s_kept : Stmt := top 50
abbrev s_greatest : Stmt := top 53
abbrev s_made : Stmt := top 68
abbrev s_even_right : Stmt := top 77
abbrev s_right : Stmt := top 78
abbrev s_law : Stmt := top 79
end L18
set_option maxRecDepth 100000
set_option maxHeartbeats 0
namespace L18
open PySem PySem.Spec PyProof.Rows L2 DL R
def dd_filled : He5.DefA := ⟨DLH.atG "_law_filled", "_law_filled", "_law_filled", defArgs s_filled, defBody s_filled, defScope s_filled, [], []⟩
def dd_dip : He5.DefA := ⟨DLH.atG "_law_dip", "_law_dip", "_law_dip", defArgs s_dip, defBody s_dip, defScope s_dip, [], []⟩
def dd_free : He5.DefA := ⟨DLH.atG "_law_free", "_law_free", "_law_free", defArgs s_free, defBody s_free, defScope s_free, [], []⟩
def dd_borders : He5.DefA := ⟨DLH.atG "_law_borders", "_law_borders", "_law_borders", defArgs s_borders, defBody s_borders, defScope s_borders, [], []⟩
def dd_far : He5.DefA := ⟨DLH.atG "_law_far", "_law_far", "_law_far", defArgs s_far, defBody s_far, defScope s_far, [], []⟩
def dd_keep : He5.DefA := ⟨DLH.atG "_law_keep", "_law_keep", "_law_keep", defArgs s_keep, defBody s_keep, defScope s_keep, [], []⟩
def dd_parted : He5.DefA := ⟨DLH.atG "_law_parted", "_law_parted", "_law_parted", defArgs s_parted, defBody s_parted, defScope s_parted, [], []⟩
def dd_is_ascending : He5.DefA := ⟨DLH.atG "is_ascending", "is_ascending", "is_ascending", defArgs s_is_ascending, defBody s_is_ascending, defScope s_is_ascending, [], []⟩
def dd_is_whole : He5.DefA := ⟨DLH.atG "is_whole", "is_whole", "is_whole", defArgs s_is_whole, defBody s_is_whole, defScope s_is_whole, [], []⟩
def dd_is_name : He5.DefA := ⟨DLH.atG "is_name", "is_name", "is_name", defArgs s_is_name, defBody s_is_name, defScope s_is_name, [], []⟩
def dd_is_word_of : He5.DefA := ⟨DLH.atG "is_word_of", "is_word_of", "is_word_of", defArgs s_is_word_of, defBody s_is_word_of, defScope s_is_word_of, [], []⟩
def dd_all_marks : He5.DefA := ⟨DLH.atG "all_marks", "all_marks", "all_marks", defArgs s_all_marks, defBody s_all_marks, defScope s_all_marks, [], []⟩
def dd_arcs_up_to : He5.DefA := ⟨DLH.atG "arcs_up_to", "arcs_up_to", "arcs_up_to", defArgs s_arcs_up_to, defBody s_arcs_up_to, defScope s_arcs_up_to, [], []⟩
def dd_check_ring : He5.DefA := ⟨DLH.atG "check_ring", "check_ring", "check_ring", defArgs s_check_ring, defBody s_check_ring, defScope s_check_ring, [], []⟩
def dd_Ring_hosts : He5.DefA := ⟨DLH.atP "Ring" "hosts", "hosts", "Ring.hosts", defArgs s_Ring_hosts, defBody s_Ring_hosts, defScope s_Ring_hosts, [], []⟩
def dd_Ring_factor : He5.DefA := ⟨DLH.atP "Ring" "factor", "factor", "Ring.factor", defArgs s_Ring_factor, defBody s_Ring_factor, defScope s_Ring_factor, [], []⟩
def dd_Ring_spread : He5.DefA := ⟨DLH.atP "Ring" "spread", "spread", "Ring.spread", defArgs s_Ring_spread, defBody s_Ring_spread, defScope s_Ring_spread, [], []⟩
def dd_ahead : He5.DefA := ⟨DLH.atG "ahead", "ahead", "ahead", defArgs s_ahead, defBody s_ahead, defScope s_ahead, [], []⟩
def dd_Ring_points : He5.DefA := ⟨DLH.atP "Ring" "points", "points", "Ring.points", defArgs s_Ring_points, defBody s_Ring_points, defScope s_Ring_points, [], []⟩
def dd_Ring__way : He5.DefA := ⟨DLH.atM "Ring" "_way", "_way", "Ring._way", defArgs s_Ring__way, defBody s_Ring__way, defScope s_Ring__way, [], []⟩
def dd_Ring_names : He5.DefA := ⟨DLH.atP "Ring" "names", "names", "Ring.names", defArgs s_Ring_names, defBody s_Ring_names, defScope s_Ring_names, [], []⟩
def dd_sheet : He5.DefA := ⟨DLH.atG "_law_sheet", "_law_sheet", "_law_sheet", defArgs s_sheet, defBody s_sheet, defScope s_sheet, [], []⟩
def dd_is_written_number : He5.DefA := ⟨DLH.atG "is_written_number", "is_written_number", "is_written_number", defArgs s_is_written_number, defBody s_is_written_number, defScope s_is_written_number, [], []⟩
def dd_of : He5.DefA := ⟨DLH.atG "_law_of", "_law_of", "_law_of", defArgs s_of, defBody s_of, defScope s_of, [], []⟩
def dd_vast : He5.DefA := ⟨DLH.atG "_law_vast", "_law_vast", "_law_vast", defArgs s_vast, defBody s_vast, defScope s_vast, [], []⟩
def dd_counted : He5.DefA := ⟨DLH.atG "_law_counted", "_law_counted", "_law_counted", defArgs s_counted, defBody s_counted, defScope s_counted, [], []⟩
def dd_is_from_to : He5.DefA := ⟨DLH.atG "is_from_to", "is_from_to", "is_from_to", defArgs s_is_from_to, defBody s_is_from_to, defScope s_is_from_to, [], []⟩
def dd_is_free_name : He5.DefA := ⟨DLH.atG "is_free_name", "is_free_name", "is_free_name", defArgs s_is_free_name, defBody s_is_free_name, defScope s_is_free_name, [], []⟩
def dd_firsts : He5.DefA := ⟨DLH.atG "_law_firsts", "_law_firsts", "_law_firsts", defArgs s_firsts, defBody s_firsts, defScope s_firsts, [], []⟩
def dd_written_number : He5.DefA := ⟨DLH.atG "written_number", "written_number", "written_number", defArgs s_written_number, defBody s_written_number, defScope s_written_number, [], []⟩
def dd_place : He5.DefA := ⟨DLH.atG "_law_place", "_law_place", "_law_place", defArgs s_place, defBody s_place, defScope s_place, [], []⟩
def dd_title : He5.DefA := ⟨DLH.atG "_law_title", "_law_title", "_law_title", defArgs s_title, defBody s_title, defScope s_title, [], []⟩
def dd_rule : He5.DefA := ⟨DLH.atG "_law_rule", "_law_rule", "_law_rule", defArgs s_rule, defBody s_rule, defScope s_rule, [], []⟩
def dd_are_free_marks : He5.DefA := ⟨DLH.atG "are_free_marks", "are_free_marks", "are_free_marks", defArgs s_are_free_marks, defBody s_are_free_marks, defScope s_are_free_marks, [], []⟩
def dd_new_racks_first : He5.DefA := ⟨DLH.atG "new_racks_first", "new_racks_first", "new_racks_first", defArgs s_new_racks_first, defBody s_new_racks_first, defScope s_new_racks_first, [], []⟩
def dd_check_point : He5.DefA := ⟨DLH.atG "check_point", "check_point", "check_point", defArgs s_check_point, defBody s_check_point, defScope s_check_point, [], []⟩
def dd_Ring___contains__ : He5.DefA := ⟨DLH.atM "Ring" "__contains__", "__contains__", "Ring.__contains__", defArgs s_Ring___contains__, defBody s_Ring___contains__, defScope s_Ring___contains__, [], []⟩
def dd_written_host : He5.DefA := ⟨DLH.atG "written_host", "written_host", "written_host", defArgs s_written_host, defBody s_written_host, defScope s_written_host, [], []⟩
def dd_width : He5.DefA := ⟨DLH.atG "_law_width", "_law_width", "_law_width", defArgs s_width, defBody s_width, defScope s_width, [], []⟩
def dd_titles : He5.DefA := ⟨DLH.atG "_law_titles", "_law_titles", "_law_titles", defArgs s_titles, defBody s_titles, defScope s_titles, [], []⟩
def dd_is_next_host : He5.DefA := ⟨DLH.atG "is_next_host", "is_next_host", "is_next_host", defArgs s_is_next_host, defBody s_is_next_host, defScope s_is_next_host, [], []⟩
def dd_keepers_in : He5.DefA := ⟨DLH.atG "keepers_in", "keepers_in", "keepers_in", defArgs s_keepers_in, defBody s_keepers_in, defScope s_keepers_in, [], []⟩
def dd_Ring_walk : He5.DefA := ⟨DLH.atM "Ring" "walk", "walk", "Ring.walk", defArgs s_Ring_walk, defBody s_Ring_walk, defScope s_Ring_walk, [], []⟩
def dd_check_name : He5.DefA := ⟨DLH.atG "check_name", "check_name", "check_name", defArgs s_check_name, defBody s_check_name, defScope s_check_name, [], []⟩
def dd_yards : He5.DefA := ⟨DLH.atG "_law_yards", "_law_yards", "_law_yards", defArgs s_yards, defBody s_yards, defScope s_yards, [], []⟩
def dd_check_hosts : He5.DefA := ⟨DLH.atG "check_hosts", "check_hosts", "check_hosts", defArgs s_check_hosts, defBody s_check_hosts, defScope s_check_hosts, [], []⟩
def dd_walks : He5.DefA := ⟨DLH.atG "walks", "walks", "walks", defArgs s_walks, defBody s_walks, defScope s_walks, [], []⟩
def dd_band : He5.DefA := ⟨DLH.atG "_law_band", "_law_band", "_law_band", defArgs s_band, defBody s_band, defScope s_band, [], []⟩
def dd_Ring___init__ : He5.DefA := ⟨DLH.atM "Ring" "__init__", "__init__", "Ring.__init__", defArgs s_Ring___init__, defBody s_Ring___init__, defScope s_Ring___init__, [], []⟩
def dd_keepers_at : He5.DefA := ⟨DLH.atG "keepers_at", "keepers_at", "keepers_at", defArgs s_keepers_at, defBody s_keepers_at, defScope s_keepers_at, [], []⟩
def dd_build : He5.DefA := ⟨DLH.atG "_law_build", "_law_build", "_law_build", defArgs s_build, defBody s_build, defScope s_build, [], []⟩
def dd_cells : He5.DefA := ⟨DLH.atG "cells", "cells", "cells", defArgs s_cells, defBody s_cells, defScope s_cells, [], []⟩
def dd_plain : He5.DefA := ⟨DLH.atG "_law_plain", "_law_plain", "_law_plain", defArgs s_plain, defBody s_plain, defScope s_plain, [], []⟩
def dd_shares : He5.DefA := ⟨DLH.atG "shares", "shares", "shares", defArgs s_shares, defBody s_shares, defScope s_shares, [], []⟩
def dd_leads : He5.DefA := ⟨DLH.atG "leads", "leads", "leads", defArgs s_leads, defBody s_leads, defScope s_leads, [], []⟩
def dd_Ring_read : He5.DefA := ⟨DLH.atC "Ring" "read", "read", "Ring.read", defArgs s_Ring_read, defBody s_Ring_read, defScope s_Ring_read, [], []⟩
def dd_kept : He5.DefA := ⟨DLH.atG "kept", "kept", "kept", defArgs s_kept, defBody s_kept, defScope s_kept, [], []⟩
def dd_greatest : He5.DefA := ⟨DLH.atG "greatest", "greatest", "greatest", defArgs s_greatest, defBody s_greatest, defScope s_greatest, [], []⟩
def dd_made : He5.DefA := ⟨DLH.atG "_law_made", "_law_made", "_law_made", defArgs s_made, defBody s_made, defScope s_made, [], []⟩
def dd_even_right : He5.DefA := ⟨DLH.atG "_law_even_right", "_law_even_right", "_law_even_right", defArgs s_even_right, defBody s_even_right, defScope s_even_right, [], []⟩
def dd_right : He5.DefA := ⟨DLH.atG "_law_right", "_law_right", "_law_right", defArgs s_right, defBody s_right, defScope s_right, [], []⟩
def dd_law : He5.DefA := ⟨DLH.atG "law", "law", "law", defArgs s_law, defBody s_law, defScope s_law, [], []⟩
def fnA : List He5.DefA := [dd_filled, dd_dip, dd_free, dd_borders, dd_far, dd_keep, dd_parted, dd_is_ascending, dd_is_whole, dd_is_name, dd_is_word_of, dd_all_marks, dd_arcs_up_to, dd_check_ring, dd_Ring_hosts, dd_Ring_factor, dd_Ring_spread, dd_ahead, dd_Ring_points, dd_Ring__way, dd_Ring_names, dd_sheet, dd_is_written_number, dd_of, dd_vast, dd_counted, dd_is_from_to, dd_is_free_name, dd_firsts, dd_written_number, dd_place, dd_title, dd_rule, dd_are_free_marks, dd_new_racks_first, dd_check_point, dd_Ring___contains__, dd_written_host, dd_width, dd_titles, dd_is_next_host, dd_keepers_in, dd_Ring_walk, dd_check_name, dd_yards, dd_check_hosts, dd_walks, dd_band, dd_Ring___init__, dd_keepers_at, dd_build, dd_cells, dd_plain, dd_shares, dd_leads, dd_Ring_read, dd_kept, dd_greatest, dd_made, dd_even_right, dd_right, dd_law]
def faA0 : List He.Fa := [.glo "_law_filled", .glo "_law_dip", .glo "_law_free", .glo "_law_borders", .glo "_law_far", .glo "_law_keep", .glo "_law_parted", .glo "is_ascending", .glo "is_whole", .glo "is_name", .glo "is_word_of", .glo "all_marks", .glo "arcs_up_to", .glo "check_ring", .glo "ahead", .meth "Ring" "_way", .glo "_law_sheet", .glo "is_written_number", .glo "_law_of", .glo "_law_vast", .glo "_law_counted", .glo "is_from_to", .glo "is_free_name", .glo "_law_firsts", .glo "written_number", .glo "_law_place", .glo "_law_title", .glo "_law_rule", .glo "are_free_marks", .glo "new_racks_first"]
def faA1 : List He.Fa := [.glo "check_point", .meth "Ring" "__contains__", .glo "written_host", .glo "_law_width", .glo "_law_titles", .glo "is_next_host", .glo "keepers_in", .meth "Ring" "walk", .glo "check_name", .glo "_law_yards", .glo "check_hosts", .glo "walks", .glo "_law_band", .meth "Ring" "__init__", .glo "keepers_at", .glo "_law_build", .glo "cells", .glo "_law_plain", .glo "shares", .glo "leads", .glo "kept", .glo "greatest", .glo "_law_made", .glo "_law_even_right", .glo "_law_right", .glo "law", .glo "Ring", .cls "Ring", .mkr "Ring", .glo "SPREADS"]
def faA2 : List He.Fa := [.glo "PENDINGS", .glo "BadValue", .noat "Ring" "_points", .noat "Ring" "_factor", .noat "Ring" "_spread", .noat "Ring" "_write", .noat "Ring" "_read_number", .noat "Ring" "_pending", .noat "Ring" "_hosts", .noat "Ring" "__bool__", .free "abs", .free "all", .free "any", .free "bool", .free "dict", .free "divmod", .free "enumerate", .free "int", .free "isinstance", .free "len", .free "list", .free "max", .free "min", .free "range", .free "repr", .free "reversed", .free "set", .free "sorted", .free "str", .free "sum"]
def faA3 : List He.Fa := [.free "tuple", .free "zip", .str "DIGITS" "0123456789", .str "LETTERS" "abcdefghijklmnopqrstuvwxyz", .int "MOST_DIGITS" 19, .int "MOST_FACTOR" 5, .int "MOST_HOSTS" 12, .int "MOST_MARKS" 16, .int "MOST_POINTS" 1000000000000000000, .int "MOST_SIGNS" 8]
def faA : List He.Fa := faA0 ++ faA1 ++ faA2 ++ faA3
def exA (K : PySem.W.Frag) : Bool := He.tupB K "SPREADS" [.str "hosts", .str "racks"] && (He.tupB K "PENDINGS" [.str "plain", .str "with"] && (DLH.propB K "Ring" "hosts" && (DLH.propB K "Ring" "factor" && (DLH.propB K "Ring" "spread" && (DLH.propB K "Ring" "points" && (DLH.propB K "Ring" "names" && (DLH.cmB K "Ring" "read" && (DLH.isB K "Ring"))))))))
def nmA0 : List PySem.Str := ["_wall", "__name__", "BadValue", "InvalidText", "InvalidNumber", "InvalidSpread", "InvalidPending", "InvalidPoint", "NotARing", "InvalidHosts", "BadName", "UnknownName", "MOST_POINTS", "MOST_FACTOR", "MOST_HOSTS", "MOST_MARKS", "LETTERS", "DIGITS", "MOST_SIGNS", "MOST_DIGITS", "is_whole", "is_from_to", "is_word_of", "is_name", "is_ascending", "is_written_number", "written_number", "SPREADS", "PENDINGS", "are_free_marks"]
def nmA1 : List PySem.Str := ["is_free_name", "is_next_host", "check_hosts", "check_point", "check_name", "new_racks_first", "keepers_in", "host_row", "written_host", "Ring", "check_ring", "ahead", "walks", "arcs_up_to", "keepers_at", "all_marks", "cells", "kept", "leads", "shares", "greatest", "_law_filled", "_law_dip", "_law_of", "_law_vast", "_law_title", "_law_titles", "_law_yards", "_law_free", "_law_place"]
def nmA2 : List PySem.Str := ["_law_band", "_law_rule", "_law_build", "_law_width", "_law_made", "_law_sheet", "_law_plain", "_law_far", "_law_keep", "_law_borders", "_law_parted", "_law_counted", "_law_firsts", "_law_even_right", "_law_right"]
def nmA : List PySem.Str := nmA0 ++ nmA1 ++ nmA2
abbrev RR : PySem.W.OpenRow := PySem.W.OpenLaw.row PySem.Challenge.rw_ringshares_k18_whole_shares_of_great_rin
abbrev hkA : PySem.W.Hook := DLH.hookR 5 faA fnA exA
def obA (s : PySem.W.SharedT) : He.AlD := DLH.obsRG 5 faA fnA exA (HandSHeadRun.getT s)
theorem obA_eq (s : PySem.W.SharedT) : obA s = hkA.obs s.abs := DLH.obsRG_eq (HandSHeadRun.getT_eq s)
theorem runA (w : World) : HandSHeadRun.RunEq RR (PySem.W.view RR.prog [79]) hkA obA 9000 nmA w := by
  intro os
  kernel_rfl
end L18
set_option maxRecDepth 100000
set_option maxHeartbeats 4000000
namespace DL
open PySem PySem.Spec PyProof.Rows L2
inductive D where
  | non | bl (b : Bool) | int (i : Int) | str (x : Str) | ty (n : String)
  | lst (xs : List D) | tup (xs : List D) | lsf (xs : List D)
  | dic (ks : List Key) (vs : List D)
  | ins (C : Addr) (fs : List Str) (vs : List D)
  | cel (a : Addr)
mutual
inductive Dn (K : PySem.W.Frag) (H : Hp) : V → D → Prop
  | non : Dn K H .non .non
  | bl (b : Bool) : Dn K H (.bl b) (.bl b)
  | int (i : Int) : Dn K H (.int i) (.int i)
  | str (x : Str) : Dn K H (.str x) (.str x)
  | ty (n : String) : Dn K H (.ty n) (.ty n)
  | cel (a : Addr) : Dn K H (.ref a) (.cel a)
  | lst {a : Addr} {vs : List V} {ds : List D} : H a = some (.lst vs) → DnL K H vs ds → Dn K H (.ref a) (.lst ds)
  | lsf {a : Addr} {vs : List V} {ds : List D} : SqL K H a vs → DnL K H vs ds → Dn K H (.ref a) (.lsf ds)
  | tup {a : Addr} {vs : List V} {ds : List D} : SqT K H a vs → DnL K H vs ds → Dn K H (.ref a) (.tup ds)
  | dic {a : Addr} {kvs : List (Key × V)} {ds : List D} : H a = some (.dK kvs) → DnL K H (kvs.map (·.2)) ds → Dn K H (.ref a) (.dic (kvs.map (·.1)) ds)
  | ins {a C dx : Addr} {fs : List (Str × V)} {ds : List D} : H a = some (.ins C dx fs) → DnL K H (fs.map (·.2)) ds → Dn K H (.ref a) (.ins C (fs.map (·.1)) ds)
inductive DnL (K : PySem.W.Frag) (H : Hp) : List V → List D → Prop
  | nil : DnL K H [] []
  | cons {v : V} {vs : List V} {d : D} {ds : List D} : Dn K H v d → DnL K H vs ds → DnL K H (v :: vs) (d :: ds)
end
/-- H' knows all that H knows -/
def Ext (H H' : Hp) : Prop := ∀ a o, H a = some o → H' a = some o
theorem Ext.refl (H : Hp) : Ext H H := fun _ _ h => h
theorem Ext.trans {H H1 H2 : Hp} (a : Ext H H1) (b : Ext H1 H2) : Ext H H2 := fun x o h => b x o (a x o h)
theorem Ext.fresh {H H' : Hp} {p : Addr} (e : Ext H H') (h : H' p = none) : H p = none := by
  cases q : H p with
  | none => rfl
  | some o => rw [e p o q] at h; cases h
theorem Ext.add {H : Hp} {p : Addr} {o : HO} (h : H p = none) : Ext H (upd H p o) := fun a u e => by
  rw [upd_ne (ne_of_none e h)]; exact e
theorem Ext.both {H H' : Hp} {p : Addr} {o : HO} (e : Ext H H') : Ext (upd H p o) (upd H' p o) := fun a u h => by
  by_cases q : a = p
  · subst q; rw [upd_same] at h ⊢; exact h
  · rw [upd_ne q] at h ⊢; exact e a u h
theorem Ext.off {H H' : Hp} {p : Addr} {o : HO} (e : Ext H H') (h : H p = none) : Ext H (upd H' p o) := fun a u ha => by
  rw [upd_ne (ne_of_none ha h)]; exact e a u ha
theorem Ext.rd {H H' : Hp} {a : Addr} {u : HO} (e : Ext H H') (h : Rd H a u) : Rd H' a u :=
  h.elim (fun z => .inl (e a _ z)) fun ⟨o, z⟩ => .inr ⟨o, e a _ z⟩
theorem Ext.sqL {K : PySem.W.Frag} {H H' : Hp} {a : Addr} {xs : List V} (e : Ext H H') (h : SqL K H a xs) : SqL K H' a xs := h.elim (fun z => .inl (e.rd z)) .inr
theorem Ext.sqT {K : PySem.W.Frag} {H H' : Hp} {a : Addr} {xs : List V} (e : Ext H H') (h : SqT K H a xs) : SqT K H' a xs := h.elim (fun z => .inl (e.rd z)) .inr
mutual
theorem Dn.mono {K : PySem.W.Frag} {H H' : Hp} (e : Ext H H') : ∀ {v : V} {d : D}, Dn K H v d → Dn K H' v d
  | _, _, .non => .non
  | _, _, .bl b => .bl b
  | _, _, .int b => .int b
  | _, _, .str b => .str b
  | _, _, .ty b => .ty b
  | _, _, .cel b => .cel b
  | _, _, .lst h r => .lst (e _ _ h) (DnL.mono e r)
  | _, _, .lsf h r => .lsf (e.sqL h) (DnL.mono e r)
  | _, _, .tup h r => .tup (e.sqT h) (DnL.mono e r)
  | _, _, .dic h r => .dic (e _ _ h) (DnL.mono e r)
  | _, _, .ins h r => .ins (e _ _ h) (DnL.mono e r)
theorem DnL.mono {K : PySem.W.Frag} {H H' : Hp} (e : Ext H H') : ∀ {v : List V} {d : List D}, DnL K H v d → DnL K H' v d
  | _, _, .nil => .nil
  | _, _, .cons h r => .cons (Dn.mono e h) (DnL.mono e r)
end
section
variable {K : PySem.W.Frag} {H H' : Hp}
theorem DnL.length : ∀ {vs : List V} {ds : List D}, DnL K H vs ds → vs.length = ds.length
  | _, _, .nil => rfl
  | _, _, .cons _ r => congrArg (· + 1) (DnL.length r)
theorem DnL.get : ∀ {vs : List V} {ds : List D} {i : Nat} {d : D}, DnL K H vs ds → ds[i]? = some d → ∃ v, vs[i]? = some v ∧ Dn K H v d
  | _, _, _, _, .nil, h => by simp at h
  | _, _, 0, _, .cons a _, h => by simp at h; subst h; exact ⟨_, rfl, a⟩
  | _, _, i + 1, _, .cons _ r, h => by
    obtain ⟨v, h1, h2⟩ := DnL.get (i := i) r (by simpa using h)
    exact ⟨v, by simpa using h1, h2⟩
theorem DnL.getV : ∀ {vs : List V} {ds : List D} {i : Nat} {v : V}, DnL K H vs ds → vs[i]? = some v → ∃ d, ds[i]? = some d ∧ Dn K H v d
  | _, _, _, _, .nil, h => by simp at h
  | _, _, 0, _, .cons a _, h => by simp at h; subst h; exact ⟨_, rfl, a⟩
  | _, _, i + 1, _, .cons _ r, h => by
    obtain ⟨v, h1, h2⟩ := DnL.getV (i := i) r (by simpa using h)
    exact ⟨v, by simpa using h1, h2⟩
theorem DnL.app : ∀ {vs ws : List V} {ds es : List D}, DnL K H vs ds → DnL K H ws es → DnL K H (vs ++ ws) (ds ++ es)
  | _, _, _, _, .nil, s => s
  | _, _, _, _, .cons a r, s => .cons a (DnL.app r s)
theorem DnL.one {v : V} {d : D} (h : Dn K H v d) : DnL K H [v] [d] := .cons h .nil
theorem DnL.take : ∀ {vs : List V} {ds : List D} (n : Nat), DnL K H vs ds → DnL K H (vs.take n) (ds.take n)
  | _, _, 0, _ => .nil
  | _, _, _ + 1, .nil => .nil
  | _, _, n + 1, .cons a r => .cons a (DnL.take n r)
theorem DnL.drop : ∀ {vs : List V} {ds : List D} (n : Nat), DnL K H vs ds → DnL K H (vs.drop n) (ds.drop n)
  | _, _, 0, r => r
  | _, _, _ + 1, .nil => .nil
  | _, _, n + 1, .cons _ r => DnL.drop n r
theorem DnL.set : ∀ {vs : List V} {ds : List D} {v : V} {d : D} (n : Nat), DnL K H vs ds → Dn K H v d → DnL K H (vs.set n v) (ds.set n d)
  | _, _, _, _, _, .nil, _ => .nil
  | _, _, _, _, 0, .cons _ r, h => .cons h r
  | _, _, _, _, n + 1, .cons a r, h => .cons a (DnL.set n r h)
theorem DnL.rep {vs : List V} {ds : List D} (h : DnL K H vs ds) : ∀ n : Nat, DnL K H (List.replicate n vs).flatten (List.replicate n ds).flatten
  | 0 => .nil
  | n + 1 => DnL.app h (DnL.rep h n)
theorem DnL.rev : ∀ {vs : List V} {ds : List D}, DnL K H vs ds → DnL K H vs.reverse ds.reverse
  | _, _, .nil => .nil
  | _, _, .cons a r => by rw [List.reverse_cons, List.reverse_cons]; exact DnL.app (DnL.rev r) (.one a)
theorem Dn.inv_int {v : V} {i : Int} (h : Dn K H v (.int i)) : v = .int i := by cases h; rfl
theorem Dn.inv_bl {v : V} {i : Bool} (h : Dn K H v (.bl i)) : v = .bl i := by cases h; rfl
theorem Dn.inv_str {v : V} {i : Str} (h : Dn K H v (.str i)) : v = .str i := by cases h; rfl
theorem Dn.inv_non {v : V} (h : Dn K H v .non) : v = .non := by cases h; rfl
theorem Dn.inv_cel {v : V} {a : Addr} (h : Dn K H v (.cel a)) : v = .ref a := by cases h; rfl
end
inductive Cel where
  | ls (xs : List D)
  | dc (kvs : List (Key × D))
  | ob (C : Addr) (fs : List (Str × D))
  | fd (o : Obj) (rs : List (Key × V)) (kvs : List (Key × D))
abbrev Mem := Addr → Option Cel
def mset (M : Mem) (a : Addr) (x : Cel) : Mem := fun b => if b = a then some x else M b
theorem mset_same {M : Mem} {a : Addr} {x : Cel} : mset M a x a = some x := if_pos rfl
theorem mset_ne {M : Mem} {a b : Addr} {x : Cel} (h : b ≠ a) : mset M a x b = M b := if_neg h
theorem mset_mset {M : Mem} {a : Addr} {x y : Cel} : mset (mset M a x) a y = mset M a y := by
  funext b; unfold mset; split <;> rfl
inductive KvL {α : Type} (K : PySem.W.Frag) (H : Hp) : List (α × V) → List (α × D) → Prop
  | nil : KvL K H [] []
  | cons {k : α} {v : V} {d : D} {r : List (α × V)} {s : List (α × D)} : Dn K H v d → KvL K H r s → KvL K H ((k, v) :: r) ((k, d) :: s)
theorem KvL.mono {α : Type} {K : PySem.W.Frag} {H H' : Hp} (e : Ext H H') : ∀ {r : List (α × V)} {s : List (α × D)}, KvL K H r s → KvL K H' r s
  | _, _, .nil => .nil
  | _, _, .cons a b => .cons (a.mono e) (KvL.mono e b)
def CelOk (K : PySem.W.Frag) (H0 H : Hp) (c : Addr) : Cel → Prop
  | .ls xs => ∃ vs, H c = some (.lst vs) ∧ DnL K H0 vs xs
  | .dc ds => ∃ kvs, H c = some (.dK kvs) ∧ KvL K H0 kvs ds
  | .ob C fs => ∃ dx fvs, H c = some (.ins C dx fvs) ∧ KvL K H0 fvs fs
  | .fd o rs ds => H c = some (.frz o (.dK rs)) ∧ KvL K H0 rs ds
theorem CelOk.same {K : PySem.W.Frag} {H0 H H1 H' : Hp} {c : Addr} {x : Cel} (h : CelOk K H0 H c x) (e : Ext H0 H1) (q : H' c = H c) : CelOk K H1 H' c x := by
  cases x with
  | ls xs => obtain ⟨vs, a, b⟩ := h; exact ⟨vs, by rw [q]; exact a, b.mono e⟩
  | dc ds => obtain ⟨vs, a, b⟩ := h; exact ⟨vs, by rw [q]; exact a, b.mono e⟩
  | ob C fs => obtain ⟨dx, vs, a, b⟩ := h; exact ⟨dx, vs, by rw [q]; exact a, b.mono e⟩
  | fd o rs ds => obtain ⟨a, b⟩ := h; exact ⟨by rw [q]; exact a, b.mono e⟩
theorem CelOk.there {K : PySem.W.Frag} {H0 H : Hp} {c : Addr} {x : Cel} (h : CelOk K H0 H c x) : ∃ o, H c = some o := by
  cases x with
  | ls xs => obtain ⟨vs, a, b⟩ := h; exact ⟨_, a⟩
  | dc ds => obtain ⟨vs, a, b⟩ := h; exact ⟨_, a⟩
  | ob C fs => obtain ⟨dx, vs, a, b⟩ := h; exact ⟨_, a⟩
  | fd o rs ds => obtain ⟨a, b⟩ := h; exact ⟨_, a⟩
structure SD (K : PySem.W.Frag) (H0 H : Hp) (M : Mem) : Prop where
  ex : Ext H0 H
  any : ∀ c x, M c = some x → H0 c = none ∧ CelOk K H0 H c x
section
variable {K : PySem.W.Frag} {H0 H : Hp} {M : Mem}
theorem SD.cell (S : SD K H0 H M) (c : Addr) (xs : List D) (h : M c = some (.ls xs)) : H0 c = none ∧ ∃ vs, H c = some (.lst vs) ∧ DnL K H0 vs xs := S.any c _ h
theorem SD.fresh (S : SD K H0 H M) {p : Addr} (h : H p = none) : H0 p = none ∧ M p = none := by
  refine ⟨S.ex.fresh h, ?_⟩
  cases q : M p with
  | none => rfl
  | some x =>
    obtain ⟨o, e⟩ := (S.any p x q).2.there
    rw [h] at e; cases e
/-- a new object -/
theorem SD.new (S : SD K H0 H M) {p : Addr} {o : HO} (h : H p = none) : SD K (upd H0 p o) (upd H p o) M := by
  refine ⟨S.ex.both, fun c x e => ?_⟩
  obtain ⟨n0, ok⟩ := S.any c x e
  obtain ⟨o1, e1⟩ := ok.there
  have ne : c ≠ p := ne_of_none e1 h
  exact ⟨by rw [upd_ne ne]; exact n0, ok.same (Ext.add (S.fresh h).1) (upd_ne ne)⟩
/-- a cell, new or old, as it stands from now on -/
theorem SD.put (S : SD K H0 H M) {p : Addr} {o : HO} {x : Cel} (h0 : H0 p = none) (ok : ∀ H', H' p = some o → CelOk K H0 H' p x) : SD K H0 (upd H p o) (mset M p x) := by
  refine ⟨S.ex.off h0, fun c y e => ?_⟩
  by_cases q : c = p
  · subst q; rw [mset_same] at e; cases e
    exact ⟨h0, ok _ upd_same⟩
  · rw [mset_ne q] at e
    obtain ⟨n1, k⟩ := S.any c y e
    exact ⟨n1, k.same (Ext.refl _) (upd_ne q)⟩
/-- a new cell -/
theorem SD.newCell (S : SD K H0 H M) {p : Addr} {vs : List V} {xs : List D} (h : H p = none) (r : DnL K H0 vs xs) : SD K H0 (upd H p (.lst vs)) (mset M p (.ls xs)) := S.put (S.fresh h).1 fun _ e => ⟨vs, e, r⟩
/-- a cell written -/
theorem SD.write (S : SD K H0 H M) {p : Addr} {vs : List V} {xs : List D} {y : Cel} (h : M p = some y) (r : DnL K H0 vs xs) : SD K H0 (upd H p (.lst vs)) (mset M p (.ls xs)) := S.put (S.any p y h).1 fun _ e => ⟨vs, e, r⟩
/-- an object that nobody tells of changes -/
theorem SD.aside (S : SD K H0 H M) {p : Addr} {o : HO} (h : H p = none) : SD K H0 (upd H p o) M := by
  refine ⟨S.ex.off (S.fresh h).1, fun c x e => ?_⟩
  obtain ⟨n1, k⟩ := S.any c x e
  obtain ⟨o1, e1⟩ := k.there
  exact ⟨n1, k.same (Ext.refl _) (upd_ne (ne_of_none e1 h))⟩
end
def celL (M : Mem) (c : Addr) : Option (List D) := match M c with
  | some (.ls xs) => some xs
  | _ => none
theorem celL_eq {M : Mem} {c : Addr} {xs : List D} (h : celL M c = some xs) : M c = some (.ls xs) := by
  unfold celL at h
  split at h
  · cases h; assumption
  · cases h
theorem celL_of {M : Mem} {c : Addr} {xs : List D} (h : M c = some (.ls xs)) : celL M c = some xs := by unfold celL; rw [h]
/-- the items of a list -/
def lstOf (M : Mem) : D → Option (List D)
  | .lst xs => some xs
  | .cel c => celL M c
  | _ => none
def tupOf : D → Option (List D)
  | .tup xs => some xs
  | _ => none
def lsqOf (M : Mem) : D → Option (List D)
  | .lst xs => some xs
  | .cel c => celL M c
  | .lsf xs => some xs
  | _ => none
def seqOf (M : Mem) : D → Option (List D)
  | .lst xs => some xs
  | .cel c => celL M c
  | .lsf xs => some xs
  | .tup xs => some xs
  | _ => none
section
variable {K : PySem.W.Frag} {H0 H : Hp} {M : Mem}
theorem SD.lst (S : SD K H0 H M) {v : V} {d : D} {xs : List D} (h : Dn K H0 v d) (e : lstOf M d = some xs) : ∃ a vs, v = .ref a ∧ H a = some (.lst vs) ∧ DnL K H0 vs xs := by
  cases h with
  | lst q r => cases e; exact ⟨_, _, rfl, S.ex _ _ q, r⟩
  | cel a =>
    obtain ⟨_, vs, e1, r⟩ := S.cell a xs (celL_eq e)
    exact ⟨a, vs, rfl, e1, r⟩
  | _ => cases e
theorem SD.seq (S : SD K H0 H M) {v : V} {d : D} {xs : List D} (h : Dn K H0 v d) (e : seqOf M d = some xs) : ∃ a vs, v = .ref a ∧ (SqL K H a vs ∨ SqT K H a vs) ∧ DnL K H0 vs xs := by
  cases h with
  | lst q r => cases e; exact ⟨_, _, rfl, .inl (SqL.of (S.ex _ _ q)), r⟩
  | lsf q r => cases e; exact ⟨_, _, rfl, .inl (S.ex.sqL q), r⟩
  | tup q r => cases e; exact ⟨_, _, rfl, .inr (S.ex.sqT q), r⟩
  | cel a =>
    obtain ⟨_, vs, e1, r⟩ := S.cell a xs (celL_eq e)
    exact ⟨a, vs, rfl, .inl (SqL.of e1), r⟩
  | _ => cases e
theorem SD.lsq (S : SD K H0 H M) {v : V} {d : D} {xs : List D} (h : Dn K H0 v d) (e : lsqOf M d = some xs) : ∃ a vs, v = .ref a ∧ SqL K H a vs ∧ DnL K H0 vs xs := by
  cases h with
  | lst q r => cases e; exact ⟨_, _, rfl, SqL.of (S.ex _ _ q), r⟩
  | lsf q r => cases e; exact ⟨_, _, rfl, S.ex.sqL q, r⟩
  | cel a =>
    obtain ⟨_, vs, e1, r⟩ := S.cell a xs (celL_eq e)
    exact ⟨a, vs, rfl, SqL.of e1, r⟩
  | _ => cases e
theorem SD.tup (S : SD K H0 H M) {v : V} {d : D} {xs : List D} (h : Dn K H0 v d) (e : tupOf d = some xs) : ∃ a vs, v = .ref a ∧ SqT K H a vs ∧ DnL K H0 vs xs := by
  cases h with
  | tup q r => cases e; exact ⟨_, _, rfl, S.ex.sqT q, r⟩
  | _ => cases e
end
abbrev EnvD := List (Option D)
abbrev QD := D → Mem → Prop
/-- an exception: its class, its own attributes -/
abbrev XD := Value → List Str → List D → Mem → Prop
abbrev DE := EnvD → Mem → QD → XD → Prop
abbrev DT := EnvD → Mem → (Bool → Mem → Prop) → XD → Prop
abbrev DA := EnvD → Mem → (List D → Mem → Prop) → XD → Prop
structure SlotOk (K : PySem.W.Frag) (H0 : Hp) (σ : L2.St) (env : EnvD) : Prop where
  len : σ.length = env.length
  get : ∀ (i : Nat) (d : D), env[i]? = some (some d) → ∃ v, σ[i]? = some (some v) ∧ Dn K H0 v d
def XdOk (K : PySem.W.Frag) (H0 H : Hp) (d : Option Addr) (ns : List Str) (ds : List D) : Prop :=
  (d = none ∧ ns = [] ∧ ds = []) ∨ ∃ a fs, d = some a ∧ H a = some (.xd fs) ∧ fs.map (·.1) = ns ∧ DnL K H0 (fs.map (·.2)) ds
def KQ (K : PySem.W.Frag) (H0 : Hp) (q : QD) (Q : VK) : Prop := ∀ v d H0' H' M', Ext H0 H0' → SD K H0' H' M' → Dn K H0' v d → q d M' → Q v H'
def KB (K : PySem.W.Frag) (H0 : Hp) (q : Bool → Mem → Prop) (Q : Bool → Hp → Prop) : Prop := ∀ b H0' H' M', Ext H0 H0' → SD K H0' H' M' → q b M' → Q b H'
def KA (K : PySem.W.Frag) (H0 : Hp) (q : List D → Mem → Prop) (Q : List V → Hp → Prop) : Prop := ∀ vs ds H0' H' M', Ext H0 H0' → SD K H0' H' M' → DnL K H0' vs ds → q ds M' → Q vs H'
def KX (K : PySem.W.Frag) (H0 : Hp) (E : XD) (W : XK) : Prop := ∀ cls dd ns ds H0' H' M', Ext H0 H0' → SD K H0' H' M' → XdOk K H0' H' dd ns ds → E cls ns ds M' → W cls dd H'
section
variable {K : PySem.W.Frag} {H0 H1 : Hp}
theorem KQ.mono {q : QD} {Q : VK} (h : KQ K H0 q Q) (e : Ext H0 H1) : KQ K H1 q Q := fun v d _ _ _ e' => h v d _ _ _ (e.trans e')
theorem KB.mono {q : Bool → Mem → Prop} {Q : Bool → Hp → Prop} (h : KB K H0 q Q) (e : Ext H0 H1) : KB K H1 q Q := fun v _ _ _ e' => h v _ _ _ (e.trans e')
theorem KA.mono {q : List D → Mem → Prop} {Q : List V → Hp → Prop} (h : KA K H0 q Q) (e : Ext H0 H1) : KA K H1 q Q := fun v d _ _ _ e' => h v d _ _ _ (e.trans e')
theorem KX.mono {q : XD} {Q : XK} (h : KX K H0 q Q) (e : Ext H0 H1) : KX K H1 q Q := fun c d n s _ _ _ e' => h c d n s _ _ _ (e.trans e')
theorem SlotOk.mono {σ : L2.St} {env : EnvD} (h : SlotOk K H0 σ env) (e : Ext H0 H1) : SlotOk K H1 σ env := ⟨h.len, fun i d q => let ⟨v, a, b⟩ := h.get i d q; ⟨v, a, b.mono e⟩⟩
theorem SlotOk.set {σ : L2.St} {env : EnvD} (h : SlotOk K H0 σ env) {v : V} {d : D} (i : Nat) (r : Dn K H0 v d) : SlotOk K H0 (σ.set i (some v)) (env.set i (some d)) := by
  refine ⟨by rw [List.length_set, List.length_set]; exact h.len, fun j e q => ?_⟩
  by_cases hj : i = j
  · subst hj
    have hi : i < env.length := by
      have := (List.getElem?_eq_some_iff.mp q).1
      rwa [List.length_set] at this
    rw [List.getElem?_set_self hi] at q
    cases q
    exact ⟨v, by rw [List.getElem?_set_self (by rw [h.len]; exact hi)], r⟩
  · rw [List.getElem?_set_ne hj] at q
    obtain ⟨u, a, b⟩ := h.get j e q
    exact ⟨u, by rw [List.getElem?_set_ne hj]; exact a, b⟩
end
def liftE (K : PySem.W.Frag) (W : WX) (de : DE) : TE := fun σ H Q => ∃ env M q E H0, SlotOk K H0 σ env ∧ SD K H0 H M ∧ de env M q E ∧ KQ K H0 q Q ∧ KX K H0 E fun c d => W c d σ
def liftT (K : PySem.W.Frag) (W : WX) (dt : DT) : TT := fun σ H Q => ∃ env M q E H0, SlotOk K H0 σ env ∧ SD K H0 H M ∧ dt env M q E ∧ KB K H0 q Q ∧ KX K H0 E fun c d => W c d σ
def liftA (K : PySem.W.Frag) (W : WX) (da : DA) : TA := fun σ H Q => ∃ env M q E H0, SlotOk K H0 σ env ∧ SD K H0 H M ∧ da env M q E ∧ KA K H0 q Q ∧ KX K H0 E fun c d => W c d σ
def PD (X : Cx) (W : WX) (e : Expr) (de : DE) : Prop := PE X e (liftE X.K W de)
def TD (X : Cx) (W : WX) (e : Expr) (dt : DT) : Prop := PT X e (liftT X.K W dt)
def AD (X : Cx) (W : WX) (es : List Expr) (da : DA) : Prop := PA X es (liftA X.K W da)
theorem peImp {X : Cx} {e : Expr} {t t' : TE} (h : PE X e t) (i : ∀ σ H Q, t' σ H Q → t σ H Q) : PE X e t' := ⟨fun pins s σ H Q I q => h.run pins s σ H Q I (i σ H Q q)⟩
theorem ptImp {X : Cx} {e : Expr} {t t' : TT} (h : PT X e t) (i : ∀ σ H Q, t' σ H Q → t σ H Q) : PT X e t' := ⟨fun pins s σ H Q I q => h.run pins s σ H Q I (i σ H Q q)⟩
theorem paImp {X : Cx} {e : List Expr} {t t' : TA} (h : PA X e t) (i : ∀ σ H Q, t' σ H Q → t σ H Q) : PA X e t' := ⟨fun pos pins s σ H Q I q => h.run pos pins s σ H Q I (i σ H Q q)⟩
theorem psImp {X : Cx} {e : Stmt} {t t' : TS} (h : PS X e t) (i : ∀ D σ H, t' D σ H → t D σ H) : PS X e t' := ⟨fun pins s σ H D I q => h.run pins s σ H D I (i D σ H q)⟩
theorem pssImp {X : Cx} {e : List Stmt} {t t' : TS} (h : PSs X e t) (i : ∀ D σ H, t' D σ H → t D σ H) : PSs X e t' := ⟨fun pins s σ H D I q => h.run pins s σ H D I (i D σ H q)⟩
/-- run an expression's lift, then go on -/
theorem goE {K : PySem.W.Frag} {W : WX} {de : DE} {σ : L2.St} {H H0 : Hp} {env : EnvD} {M : Mem} {q : QD} {E : XD} {Q : VK} (so : SlotOk K H0 σ env) (S : SD K H0 H M) (h : de env M q E) (kx : KX K H0 E fun c d => W c d σ)
    (k : ∀ v d H0' H' M', Ext H0 H0' → SlotOk K H0' σ env → SD K H0' H' M' → Dn K H0' v d → q d M' → (KX K H0' E fun c d => W c d σ) → Q v H') : liftE K W de σ H Q :=
  ⟨env, M, q, E, H0, so, S, h, fun v d H0' H' M' e S' r z => k v d H0' H' M' e (so.mono e) S' r z (kx.mono e), kx⟩
theorem goT {K : PySem.W.Frag} {W : WX} {de : DT} {σ : L2.St} {H H0 : Hp} {env : EnvD} {M : Mem} {q : Bool → Mem → Prop} {E : XD} {Q : Bool → Hp → Prop} (so : SlotOk K H0 σ env) (S : SD K H0 H M) (h : de env M q E) (kx : KX K H0 E fun c d => W c d σ)
    (k : ∀ b H0' H' M', Ext H0 H0' → SlotOk K H0' σ env → SD K H0' H' M' → q b M' → (KX K H0' E fun c d => W c d σ) → Q b H') : liftT K W de σ H Q :=
  ⟨env, M, q, E, H0, so, S, h, fun b H0' H' M' e S' z => k b H0' H' M' e (so.mono e) S' z (kx.mono e), kx⟩
theorem goA {K : PySem.W.Frag} {W : WX} {de : DA} {σ : L2.St} {H H0 : Hp} {env : EnvD} {M : Mem} {q : List D → Mem → Prop} {E : XD} {Q : List V → Hp → Prop} (so : SlotOk K H0 σ env) (S : SD K H0 H M) (h : de env M q E) (kx : KX K H0 E fun c d => W c d σ)
    (k : ∀ v d H0' H' M', Ext H0 H0' → SlotOk K H0' σ env → SD K H0' H' M' → DnL K H0' v d → q d M' → (KX K H0' E fun c d => W c d σ) → Q v H') : liftA K W de σ H Q :=
  ⟨env, M, q, E, H0, so, S, h, fun v d H0' H' M' e S' r z => k v d H0' H' M' e (so.mono e) S' r z (kx.mono e), kx⟩
section
variable {X : Cx} {W : WX}
@[reducible] def dVar (i : Nat) : DE := fun env M q _ => ∃ d, env[i]? = some (some d) ∧ q d M
@[reducible] def dC (d : D) : DE := fun _ M q _ => q d M
theorem pd_of_tC {e : Expr} {v : V} {d : D} (h : PE X e (tC v)) (r : ∀ H, Dn X.K H v d) : PD X W e (dC d) := peImp h fun σ H Q ⟨env, M, q, E, H0, so, S, z, k, kx⟩ => k v d H0 H M (Ext.refl H0) S (r H0) z
theorem pd_var {e : Expr} {i : Nat} (h : PE X e (tVar i)) : PD X W e (dVar i) := peImp h fun σ H Q ⟨env, M, q, E, H0, so, S, z, k, kx⟩ => by
  obtain ⟨d, e, z⟩ := z
  obtain ⟨v, e1, r⟩ := so.get i d e
  exact ⟨v, e1, k v d H0 H M (Ext.refl H0) S r z⟩
theorem pd_int {i : Int} {j pos} : PD X W (.Constant (.int i) j pos) (dC (.int i)) := pd_of_tC pe_int fun _ => .int i
theorem pd_bl {i : Bool} {j pos} : PD X W (.Constant (.bool i) j pos) (dC (.bl i)) := pd_of_tC pe_bl fun _ => .bl i
theorem pd_str {i : Str} {j pos} : PD X W (.Constant (.str i) j pos) (dC (.str i)) := pd_of_tC pe_str fun _ => .str i
theorem pd_non {j pos} : PD X W (.Constant .none j pos) (dC .non) := pd_of_tC pe_non fun _ => .non
/-- the name in slot i -/
theorem vr (i : Nat) {x : Str} {pos : Pos} (hN : X.N[i]? = some x := by rfl) (hv : Vis X.env.scope x := by first | exact Or.inl rfl | exact Or.inr (Or.inl rfl) | exact Or.inr (Or.inr rfl)) (hd : (x == ("__debug__" : Str)) = false := by decide)
    (hcd : (x == ("__classdict__" : Str)) = false := by decide) : PD X W (.Name x pos) (dVar i) := pd_var (pe_var hN hv hd hcd)
abbrev RD1 := D → Mem → QD → Prop
abbrev RD2 := D → D → Mem → QD → Prop
abbrev RDL := List D → Mem → QD → Prop
def OpD (X : Cx) (f : Value → Value → Sem Value) (rd : RD2) : Prop := ∃ r, OpR X f r ∧ ∀ H0 H M x y dx dy q Q, SD X.K H0 H M → Dn X.K H0 x dx → Dn X.K H0 y dy → rd dx dy M q → KQ X.K H0 q Q → r x y H Q
theorem OpD.or {f : Value → Value → Sem Value} {a b : RD2} (h : OpD X f a) (h' : OpD X f b) : OpD X f (fun x y M q => a x y M q ∨ b x y M q) := by
  obtain ⟨r, o, z⟩ := h
  obtain ⟨r', o', z'⟩ := h'
  refine ⟨fun x y H Q => r x y H Q ∨ r' x y H Q, fun pins s σ H x y v u Q I rx ry w => ?_, fun H0 H M x y dx dy q Q S hx hy w k => w.elim (fun w => .inl (z H0 H M x y dx dy q Q S hx hy w k)) fun w => .inr (z' H0 H M x y dx dy q Q S hx hy w k)⟩
  rcases w with w | w
  · exact o pins s σ H x y v u Q I rx ry w
  · exact o' pins s σ H x y v u Q I rx ry w
theorem OpD.imp {f : Value → Value → Sem Value} {a b : RD2} (h : OpD X f a) (i : ∀ x y M q, b x y M q → a x y M q) : OpD X f b := by
  obtain ⟨r, o, z⟩ := h
  exact ⟨r, o, fun H0 H M x y dx dy q Q S hx hy w k => z H0 H M x y dx dy q Q S hx hy (i _ _ _ _ w) k⟩
@[reducible] def dOp (rd : RD2) (da db : DE) : DE := fun env M q E => da env M (fun x M1 => db env M1 (fun y M2 => rd x y M2 q) E) E
theorem lift_op {rd : RD2} {r : R2} {da db : DE} {K : PySem.W.Frag} (z : ∀ H0 H M x y dx dy q Q, SD K H0 H M → Dn K H0 x dx → Dn K H0 y dy → rd dx dy M q → KQ K H0 q Q → r x y H Q) :
    ∀ σ H Q, liftE K W (dOp rd da db) σ H Q → tOp r (liftE K W da) (liftE K W db) σ H Q := fun σ H Q ⟨env, M, q, E, H0, so, S, h, k, kx⟩ =>
  goE so S h kx fun x dx H1 H' M1 e1 so1 S1 rx h1 kx1 => goE so1 S1 h1 kx1 fun y dy H2 H'' M2 e2 so2 S2 ry h2 kx2 => z H2 H'' M2 x y dx dy q Q S2 (rx.mono e2) ry h2 (k.mono (e1.trans e2))
theorem pd_op {op : Operator} {rd : RD2} {a b : Expr} {da db : DE} {pos : Pos} (ho : OpD X (binaryOp op) rd) (ha : PD X W a da) (hb : PD X W b db) : PD X W (.BinOp a op b pos) (dOp rd da db) := by
  obtain ⟨r, o, z⟩ := ho
  exact peImp (pe_op o ha hb) (lift_op z)
theorem pd_cmp {op : CmpOp} {rd : RD2} {a b : Expr} {da db : DE} {pos : Pos} (ho : OpD X (compareOp op) rd) (ha : PD X W a da) (hb : PD X W b db) (hm : behindInMarks op b = false) : PD X W (.Compare a [op] [b] pos) (dOp rd da db) := by
  obtain ⟨r, o, z⟩ := ho
  exact peImp (pe_cmpR o ha hb hm) (lift_op z)
def UnD (X : Cx) (f : Value → Sem Value) (rd : RD1) : Prop := ∃ r, UnR X f r ∧ ∀ H0 H M x dx q Q, SD X.K H0 H M → Dn X.K H0 x dx → rd dx M q → KQ X.K H0 q Q → r x H Q
@[reducible] def dUn (rd : RD1) (da : DE) : DE := fun env M q E => da env M (fun x M1 => rd x M1 q) E
theorem pd_un {op : UnaryOp} {rd : RD1} {a : Expr} {da : DE} {pos : Pos} (ho : UnD X (unaryOp op) rd) (ha : PD X W a da) : PD X W (.UnaryOp op a pos) (dUn rd da) := by
  obtain ⟨r, o, z⟩ := ho
  exact peImp (pe_un o ha) fun σ H Q ⟨env, M, q, E, H0, so, S, h, k, kx⟩ => goE so S h kx fun x dx H1 H' M1 e1 so1 S1 rx h1 kx1 => z H1 H' M1 x dx q Q S1 rx h1 (k.mono e1)
def CallD (X : Cx) (f : Value) (rd : RDL) : Prop := ∃ r, CallR X f r ∧ ∀ H0 H M xs ds q Q, SD X.K H0 H M → DnL X.K H0 xs ds → rd ds M q → KQ X.K H0 q Q → r xs H Q
@[reducible] def dCB (rd : RDL) (da : DA) : DE := fun env M q E => da env M (fun xs M1 => rd xs M1 q) E
theorem CallD.or {f : Value} {a b : RDL} (h : CallD X f a) (h' : CallD X f b) : CallD X f (fun x M q => a x M q ∨ b x M q) := by
  obtain ⟨r, o, z⟩ := h
  obtain ⟨r', o', z'⟩ := h'
  refine ⟨fun x H Q => r x H Q ∨ r' x H Q, fun pins s σ H x us Q I rx w => ?_, fun H0 H M x dx q Q S hx w k => w.elim (fun w => .inl (z H0 H M x dx q Q S hx w k)) fun w => .inr (z' H0 H M x dx q Q S hx w k)⟩
  rcases w with w | w
  · exact o pins s σ H x us Q I rx w
  · exact o' pins s σ H x us Q I rx w
theorem CallD.imp {f : Value} {a b : RDL} (h : CallD X f a) (i : ∀ x M q, b x M q → a x M q) : CallD X f b := by
  obtain ⟨r, o, z⟩ := h
  exact ⟨r, o, fun H0 H M x dx q Q S hx w k => z H0 H M x dx q Q S hx (i _ _ _ w) k⟩
end
end DL
set_option maxRecDepth 100000
set_option maxHeartbeats 4000000
namespace DL
open PySem PySem.Spec PyProof.Rows L2
mutual
def toPy : D → Option PyData
  | .non => some .none
  | .bl b => some (.bool b)
  | .int i => some (.int i)
  | .str x => some (.str x)
  | .lst xs => (toPys xs).map .list
  | .lsf xs => (toPys xs).map .list
  | .tup xs => (toPys xs).map .tuple
  | .ty _ => none
  | .dic _ _ => none
  | .ins _ _ _ => none
  | .cel _ => none
def toPys : List D → Option (List PyData)
  | [] => some []
  | d :: ds => match toPy d, toPys ds with
    | some p, some ps => some (p :: ps)
    | _, _ => none
end
def pyOf (M : Mem) : D → Option PyData
  | .cel c => match celL M c with
    | some xs => (toPys xs).map .list
    | none => none
  | d => toPy d
section
variable {K : PySem.W.Frag} {H0 H : Hp} {M : Mem}
theorem omap {α β : Type} {f : α → β} {o : Option α} {b : β} (h : o.map f = some b) : ∃ a, o = some a ∧ b = f a := by
  cases o with
  | none => cases h
  | some a => exact ⟨a, rfl, (Option.some.inj h).symm⟩
mutual
theorem toPy_dp : ∀ (d : D) {v : V} {p : PyData}, Dn K H v d → toPy d = some p → Dp K H v p
  | .non, _, _, .non, e => by cases e; exact .non
  | .bl b, _, _, .bl _, e => by cases e; exact .bl _
  | .int b, _, _, .int _, e => by cases e; exact .int _
  | .str b, _, _, .str _, e => by cases e; exact .str _
  | .lst xs, _, _, .lst h r, e => by
    obtain ⟨ps, e1, rfl⟩ := omap (show (toPys xs).map PyData.list = _ from e)
    exact .lst (SqL.of h) (toPys_dp xs r e1)
  | .lsf xs, _, _, .lsf h r, e => by
    obtain ⟨ps, e1, rfl⟩ := omap (show (toPys xs).map PyData.list = _ from e)
    exact .lst h (toPys_dp xs r e1)
  | .tup xs, _, _, .tup h r, e => by
    obtain ⟨ps, e1, rfl⟩ := omap (show (toPys xs).map PyData.tuple = _ from e)
    exact .tup h (toPys_dp xs r e1)
  | .ty _, _, _, _, e => by cases e
  | .dic _ _, _, _, _, e => by cases e
  | .ins _ _ _, _, _, _, e => by cases e
  | .cel _, _, _, _, e => by cases e
theorem toPys_dp : ∀ (ds : List D) {vs : List V} {ps : List PyData}, DnL K H vs ds → toPys ds = some ps → DpAll K H vs ps
  | [], _, _, .nil, e => by cases e; exact .nil
  | d :: ds, _, _, .cons h r, e => by
    have e' : (match toPy d, toPys ds with | some p, some ps => some (p :: ps) | _, _ => none) = some _ := e
    cases e1 : toPy d with
    | none => rw [e1] at e'; cases e'
    | some p =>
      cases e2 : toPys ds with
      | none => rw [e1, e2] at e'; cases e'
      | some ps =>
        rw [e1, e2] at e'
        cases e'
        exact .cons (toPy_dp d h e1) (toPys_dp ds r e2)
end
theorem SD.py (S : SD K H0 H M) {v : V} {d : D} {p : PyData} (h : Dn K H0 v d) (e : pyOf M d = some p) : Dp K H v p := by
  cases d with
  | cel c =>
    cases h with
    | cel =>
      have e' : (match celL M c with | some xs => (toPys xs).map PyData.list | none => none) = some p := e
      cases q : celL M c with
      | none => rw [q] at e'; cases e'
      | some xs =>
        rw [q] at e'
        obtain ⟨ps, e1, rfl⟩ := omap e'
        obtain ⟨_, vs, e2, r⟩ := S.cell c xs (celL_eq q)
        exact .lst (SqL.of e2) (toPys_dp xs (r.mono S.ex) e1)
  | _ => exact toPy_dp _ (h.mono S.ex) e
end
section
variable {X : Cx} {W : WX}
/-- from a rule whose answer is a value told at once -/
theorem KQ.here {K : PySem.W.Frag} {H0 H : Hp} {M : Mem} {q : QD} {Q : VK} {v : V} {d : D} (k : KQ K H0 q Q) (S : SD K H0 H M) (r : Dn K H0 v d) (h : q d M) : Q v H := k v d H0 H M (Ext.refl H0) S r h
theorem KQ.newL {K : PySem.W.Frag} {H0 H : Hp} {M : Mem} {q : QD} {Q : VK} {vs : List V} {ds : List D} (k : KQ K H0 q Q) (S : SD K H0 H M) (r : DnL K H0 vs ds) (h : q (.lst ds) M) : ∀ p, H p = none → Q (.ref p) (upd H p (.lst vs)) := fun p hp =>
  k (.ref p) (.lst ds) (upd H0 p (.lst vs)) _ M (Ext.add (S.fresh hp).1) (S.new hp) (.lst upd_same (r.mono (Ext.add (S.fresh hp).1))) h
theorem KQ.newT {K : PySem.W.Frag} {H0 H : Hp} {M : Mem} {q : QD} {Q : VK} {vs : List V} {ds : List D} (k : KQ K H0 q Q) (S : SD K H0 H M) (r : DnL K H0 vs ds) (h : q (.tup ds) M) : ∀ p, H p = none → Q (.ref p) (upd H p (.tup vs)) := fun p hp =>
  k (.ref p) (.tup ds) (upd H0 p (.tup vs)) _ M (Ext.add (S.fresh hp).1) (S.new hp) (.tup (SqT.of upd_same) (r.mono (Ext.add (S.fresh hp).1))) h
theorem KQ.newC {K : PySem.W.Frag} {H0 H : Hp} {M : Mem} {q : QD} {Q : VK} {vs : List V} {ds : List D} (k : KQ K H0 q Q) (S : SD K H0 H M) (r : DnL K H0 vs ds) (h : ∀ a, M a = none → q (.cel a) (mset M a (.ls ds))) : ∀ p, H p = none → Q (.ref p) (upd H p (.lst vs)) := fun p hp =>
  k (.ref p) (.cel p) H0 _ _ (Ext.refl H0) (S.newCell hp r) (.cel p) (h p (S.fresh hp).2)
/-- ints: what is asked, the answer -/
def rdI (C : Int → Int → Prop) (g : Int → Int → D) : RD2 := fun x y M q => match x, y with
  | .int i, .int j => C i j ∧ q (g i j) M
  | _, _ => False
theorem opd_int {f : Value → Value → Sem Value} {C : Int → Int → Prop} {g : Int → Int → V} {gd : Int → Int → D} (h : OpR X f (rI C g)) (hg : ∀ H i j, Dn X.K H (g i j) (gd i j)) : OpD X f (rdI C gd) :=
  ⟨_, h, fun H0 H M x y dx dy q Q S hx hy w k => by
    cases dx <;> cases dy <;> try exact False.elim w
    cases hx; cases hy
    obtain ⟨c, w⟩ := w
    exact ⟨_, _, rfl, rfl, c, k.here S (hg _ _ _) w⟩⟩
theorem opd_int0 {f : Value → Value → Sem Value} {g : Int → Int → V} {gd : Int → Int → D} (h : OpR X f (rI0 g)) (hg : ∀ H i j, Dn X.K H (g i j) (gd i j)) : OpD X f (rdI (fun _ _ => True) gd) :=
  ⟨_, h, fun H0 H M x y dx dy q Q S hx hy w k => by
    cases dx <;> cases dy <;> try exact False.elim w
    cases hx; cases hy
    exact ⟨_, _, rfl, rfl, k.here S (hg _ _ _) w.2⟩⟩
def rdAdd : RD2 := fun x y M q => match x, y with
  | .int i, .int j => q (.int (i + j)) M
  | .str a, .str b => a.length + b.length ≤ sizeLine ∧ q (.str (a ++ b)) M
  | .tup a, .tup b => a.length + b.length ≤ sizeLine ∧ q (.tup (a ++ b)) M
  | x, y => ∃ a b, lstOf M x = some a ∧ lstOf M y = some b ∧ a.length + b.length ≤ sizeLine ∧ q (.lst (a ++ b)) M
def rdAddS : RD2 := fun x y M q => match x, y with
  | .str a, .str b => a.length + b.length ≤ sizeLine ∧ q (.str (a ++ b)) M
  | _, _ => False
def rdAddT : RD2 := fun x y M q => match x, y with
  | .tup a, .tup b => a.length + b.length ≤ sizeLine ∧ q (.tup (a ++ b)) M
  | _, _ => False
def rdAddL : RD2 := fun x y M q => ∃ a b, lstOf M x = some a ∧ lstOf M y = some b ∧ a.length + b.length ≤ sizeLine ∧ q (.lst (a ++ b)) M
theorem opd_addS : OpD X (binaryOp .Add) rdAddS := ⟨_, op_add_str, fun H0 H M x y dx dy q Q S hx hy w k => by
  cases dx <;> cases dy <;> try exact False.elim w
  cases hx; cases hy
  exact ⟨_, _, rfl, rfl, w.1, k.here S (.str _) w.2⟩⟩
theorem opd_addT : OpD X (binaryOp .Add) rdAddT := ⟨_, op_catA, fun H0 H M x y dx dy q Q S hx hy w k => by
  cases dx <;> cases dy <;> try exact False.elim w
  cases hx with
  | tup hx rx =>
  cases hy with
  | tup hy ry =>
  obtain ⟨c, w⟩ := w
  refine ⟨_, _, _, _, rfl, rfl, S.ex.sqT hx, S.ex.sqT hy, by rw [rx.length, ry.length]; exact c, fun e => ?_, fun _ e => ?_, fun _ _ => k.newT S (rx.app ry) w⟩
  · subst e; cases rx; exact k.here S (.tup hy ry) w
  · subst e; cases ry; rw [List.append_nil] at w; exact k.here S (.tup hx rx) w⟩
theorem opd_addL : OpD X (binaryOp .Add) rdAddL := ⟨_, op_cat, fun H0 H M x y dx dy q Q S hx hy w k => by
  obtain ⟨a, b, ea, eb, c, w⟩ := w
  obtain ⟨p, vs, rfl, hp, rp⟩ := S.lst hx ea
  obtain ⟨p', vs', rfl, hp', rp'⟩ := S.lst hy eb
  exact ⟨_, _, _, _, rfl, rfl, hp, hp', by rw [rp.length, rp'.length]; exact c, k.newL S (rp.app rp') w⟩⟩
theorem opd_add : OpD X (binaryOp .Add) rdAdd := by
  refine ((opd_int0 (g := fun i j => .int (i + j)) (gd := fun i j => .int (i + j)) op_add fun _ _ _ => .int _).or (opd_addS.or (opd_addT.or opd_addL))).imp fun x y M q h => ?_
  cases x <;> cases y <;> first
    | exact .inl ⟨trivial, h⟩
    | exact .inr (.inl h)
    | exact .inr (.inr (.inl h))
    | exact .inr (.inr (.inr h))
def rdSub : RD2 := rdI (fun _ _ => True) fun i j => .int (i - j)
theorem opd_sub : OpD X (binaryOp .Sub) rdSub := opd_int0 op_sub fun _ _ _ => .int _
/-- // and % by a positive number; the divisor of // below 2 ^ 30 -/
def rdDiv : RD2 := rdI CDiv fun i j => .int (i / j)
theorem opd_div : OpD X (binaryOp .FloorDiv) rdDiv := opd_int op_fdiv fun _ _ _ => .int _
def rdMod : RD2 := rdI (fun _ j => 0 < j) fun i j => .int (i % j)
theorem opd_mod : OpD X (binaryOp .Mod) rdMod := opd_int op_mod fun _ _ _ => .int _
def rdPow : RD2 := rdI CPow fun i j => .int (i ^ j.toNat)
theorem opd_pow : OpD X (binaryOp .Pow) rdPow := opd_int op_pow fun _ _ _ => .int _
/-- products: both sides' bits together bounded -/
def CMulB (i j : Int) : Prop := IntMulOk i j
theorem op_mulB : OpR X (binaryOp .Mult) (rI CMulB fun i j => .int (i * j)) := fun pins s σ H x y v u Q I rx ry h => by
  obtain ⟨i, j, rfl, rfl, c, q⟩ := h
  obtain ⟨t, rfl⟩ := rx
  obtain ⟨t', rfl⟩ := ry
  exact mul_int ⟨.int (i * j), H, I.tok _, ⟨_, rfl⟩, q⟩ c
def rdMul : RD2 := fun x y M q => match x, y with
  | .int i, .int j => CMulB i j ∧ q (.int (i * j)) M
  | x, .int k => ∃ a, lstOf M x = some a ∧ (-(2 ^ 63) ≤ k ∧ k < 2 ^ 63) ∧ a.length * k.toNat ≤ sizeLine ∧ q (.lst (List.replicate k.toNat a).flatten) M
  | _, _ => False
def rdRep : RD2 := fun x y M q => match y with
  | .int k => ∃ a, lstOf M x = some a ∧ (-(2 ^ 63) ≤ k ∧ k < 2 ^ 63) ∧ a.length * k.toNat ≤ sizeLine ∧ q (.lst (List.replicate k.toNat a).flatten) M
  | _ => False
theorem opd_rep : OpD X (binaryOp .Mult) rdRep := ⟨_, op_rep, fun H0 H M x y dx dy q Q S hx hy w k => by
  cases dy <;> try exact False.elim w
  obtain ⟨a, ea, c, c2, w⟩ := w
  obtain ⟨p, vs, rfl, hp, rp⟩ := S.lst hx ea
  cases hy
  exact ⟨_, _, _, rfl, rfl, hp, c.1, c.2, by rw [rp.length]; exact c2, k.newL S (rp.rep _) w⟩⟩
theorem opd_mul : OpD X (binaryOp .Mult) rdMul := by
  refine ((opd_int (g := fun i j => .int (i * j)) (gd := fun i j => .int (i * j)) op_mulB fun _ _ _ => .int _).or opd_rep).imp fun x y M q h => ?_
  cases x <;> cases y <;> first
    | exact .inl h
    | exact .inr h
    | exact False.elim h
def rdLt : RD2 := rdI (fun _ _ => True) fun i j => .bl (decide (i < j))
def rdLe : RD2 := rdI (fun _ _ => True) fun i j => .bl (decide (i ≤ j))
def rdGt : RD2 := rdI (fun _ _ => True) fun i j => .bl (decide (j < i))
def rdGe : RD2 := rdI (fun _ _ => True) fun i j => .bl (decide (j ≤ i))
theorem opd_lt : OpD X (compareOp .Lt) rdLt := opd_int0 op_lt fun _ _ _ => .bl _
theorem opd_le : OpD X (compareOp .LtE) rdLe := opd_int0 op_le fun _ _ _ => .bl _
theorem opd_gt : OpD X (compareOp .Gt) rdGt := opd_int0 op_gt fun _ _ _ => .bl _
theorem opd_ge : OpD X (compareOp .GtE) rdGe := opd_int0 op_ge fun _ _ _ => .bl _
/-- == != of plain data -/
def rdEqP : RD2 := fun x y M q => ∃ a b, pyOf M x = some a ∧ pyOf M y = some b ∧ SeqAt.shaped a = true ∧ SeqAt.shaped b = true ∧ q (.bl (PyData.eqv a b)) M
def rdNeP : RD2 := fun x y M q => ∃ a b, pyOf M x = some a ∧ pyOf M y = some b ∧ SeqAt.shaped a = true ∧ SeqAt.shaped b = true ∧ q (.bl (!PyData.eqv a b)) M
theorem opd_eqP (hu : X.A.units + 64 < cLine) : OpD X (compareOp .Eq) rdEqP := ⟨_, op_eqD hu, fun H0 H M x y dx dy q Q S hx hy w k => by
  obtain ⟨a, b, ea, eb, sa, sb, w⟩ := w
  exact ⟨a, b, S.py hx ea, S.py hy eb, sa, sb, k.here S (.bl _) w⟩⟩
theorem opd_neP (hu : X.A.units + 64 < cLine) : OpD X (compareOp .NotEq) rdNeP := ⟨_, op_neD hu, fun H0 H M x y dx dy q Q S hx hy w k => by
  obtain ⟨a, b, ea, eb, sa, sb, w⟩ := w
  exact ⟨a, b, S.py hx ea, S.py hy eb, sa, sb, k.here S (.bl _) w⟩⟩
def rdEqS : RD2 := fun x y M q => ∃ i j : Str, x = .str i ∧ y = .str j ∧ q (.bl (decide (i = j))) M
def rdNeS : RD2 := fun x y M q => ∃ i j : Str, x = .str i ∧ y = .str j ∧ q (.bl (!decide (i = j))) M
theorem dec_str {i j : Str} : decide (V.str i = V.str j) = decide (i = j) := by
  by_cases e : i = j
  · subst e; simp
  · rw [decide_eq_false e, decide_eq_false fun z => e (V.str.inj z)]
theorem opd_eqS : OpD X (compareOp .Eq) rdEqS := ⟨_, op_eq, fun H0 H M x y dx dy q Q S hx hy w k => by
  obtain ⟨i, j, rfl, rfl, w⟩ := w
  cases hx; cases hy
  exact ⟨rfl, by rw [dec_str]; exact k.here S (.bl _) w⟩⟩
theorem opd_neS : OpD X (compareOp .NotEq) rdNeS := ⟨_, op_ne, fun H0 H M x y dx dy q Q S hx hy w k => by
  obtain ⟨i, j, rfl, rfl, w⟩ := w
  cases hx; cases hy
  exact ⟨rfl, by rw [dec_str]; exact k.here S (.bl _) w⟩⟩
def rdEq : RD2 := fun x y M q => rdEqP x y M q ∨ rdEqS x y M q
def rdNe : RD2 := fun x y M q => rdNeP x y M q ∨ rdNeS x y M q
theorem opd_eq (hu : X.A.units + 64 < cLine) : OpD X (compareOp .Eq) rdEq := (opd_eqP hu).or opd_eqS
theorem opd_ne (hu : X.A.units + 64 < cLine) : OpD X (compareOp .NotEq) rdNe := (opd_neP hu).or opd_neS
def rdNeg : RD1 := fun x M q => match x with
  | .int i => q (.int (-i)) M
  | _ => False
theorem und_neg : UnD X (unaryOp .USub) rdNeg := ⟨_, un_neg, fun H0 H M x dx q Q S hx w k => by
  cases dx <;> try exact False.elim w
  cases hx
  exact ⟨_, rfl, k.here S (.int _) w⟩⟩
end
end DL
set_option maxRecDepth 100000
set_option maxHeartbeats 4000000
namespace DL
open PySem PySem.Spec PyProof.Rows L2
def flat : D → Option V
  | .non => some .non
  | .bl b => some (.bl b)
  | .int i => some (.int i)
  | .str x => some (.str x)
  | _ => none
def flats : List D → Option (List V)
  | [] => some []
  | d :: ds => match flat d, flats ds with
    | some v, some vs => some (v :: vs)
    | _, _ => none
section
variable {K : PySem.W.Frag} {H0 H : Hp} {M : Mem}
theorem flat_dn {v v' : V} {d : D} (h : Dn K H v d) (e : flat d = some v') : v = v' ∧ flatV v = true := by
  cases h <;> first
    | (cases e; exact ⟨rfl, rfl⟩)
    | cases e
theorem flats_dn : ∀ {ds : List D} {vs ws : List V}, DnL K H vs ds → flats ds = some ws → vs = ws ∧ vs.all flatV = true
  | _, _, _, .nil, e => by cases e; exact ⟨rfl, rfl⟩
  | d :: ds, _, _, .cons h r, e => by
    have e' : (match flat d, flats ds with | some v, some vs => some (v :: vs) | _, _ => none) = some _ := e
    cases e1 : flat d with
    | none => rw [e1] at e'; cases e'
    | some p =>
      cases e2 : flats ds with
      | none => rw [e1, e2] at e'; cases e'
      | some ps =>
        rw [e1, e2] at e'
        cases e'
        obtain ⟨rfl, f1⟩ := flat_dn h e1
        obtain ⟨rfl, f2⟩ := flats_dn r e2
        exact ⟨rfl, by rw [List.all_cons, f1, f2] <;> rfl⟩
end
section
variable {X : Cx} {W : WX}
def rdInQ (neg : Bool) : RD2 := fun x y M q => ∃ xs v vs, seqOf M y = some xs ∧ flat x = some v ∧ flats xs = some vs ∧ q (.bl (if neg then !inV v vs else inV v vs)) M
def rdInC (neg : Bool) : RD2 := fun x y M q => match x, y with
  | .str a, .str z => ∃ c, a = ⟨#[c]⟩ ∧ q (.bl (if neg then !decide (c ∈ z.cps.toList) else decide (c ∈ z.cps.toList))) M
  | _, _ => False
def rdIn (neg : Bool) : RD2 := fun x y M q => match y with
  | .str z => rdInC neg x (.str z) M q
  | y => rdInQ neg x y M q
theorem inQ_ok {K : PySem.W.Frag} {neg : Bool} : ∀ H0 H M x y dx dy q Q, SD K H0 H M → Dn K H0 x dx → Dn K H0 y dy → rdInQ neg dx dy M q → KQ K H0 q Q → rIn K neg x y H Q := fun H0 H M x y dx dy q Q S hx hy w k => by
  obtain ⟨xs, v, vs, e1, e2, e3, w⟩ := w
  obtain ⟨a, ws, rfl, hs, r⟩ := S.seq hy e1
  obtain ⟨rfl, f1⟩ := flat_dn hx e2
  obtain ⟨rfl, f2⟩ := flats_dn r e3
  exact ⟨a, _, rfl, hs, f1, f2, k.here S (.bl _) w⟩
theorem opd_inQ : OpD X (compareOp .In) (rdInQ false) := ⟨_, op_in_seq, inQ_ok⟩
theorem opd_niQ : OpD X (compareOp .NotIn) (rdInQ true) := ⟨_, op_notIn_seq, inQ_ok⟩
theorem opd_inC : OpD X (compareOp .In) (rdInC false) := ⟨_, op_in_sign, fun H0 H M x y dx dy q Q S hx hy w k => by
  cases dx <;> cases dy <;> try exact False.elim w
  obtain ⟨c, rfl, w⟩ := w
  cases hx; cases hy
  exact ⟨c, _, rfl, rfl, k.here S (.bl _) w⟩⟩
theorem opd_niC : OpD X (compareOp .NotIn) (rdInC true) := ⟨_, op_notIn_sign, fun H0 H M x y dx dy q Q S hx hy w k => by
  cases dx <;> cases dy <;> try exact False.elim w
  obtain ⟨c, rfl, w⟩ := w
  cases hx; cases hy
  exact ⟨c, _, rfl, rfl, k.here S (.bl _) w⟩⟩
theorem opd_in : OpD X (compareOp .In) (rdIn false) := (opd_inC.or opd_inQ).imp fun x y M q h => by
  cases y <;> first
    | exact .inl h
    | exact .inr h
theorem opd_ni : OpD X (compareOp .NotIn) (rdIn true) := (opd_niC.or opd_niQ).imp fun x y M q h => by
  cases y <;> first
    | exact .inl h
    | exact .inr h
@[reducible] def dNil : DA := fun _ M q _ => q [] M
@[reducible] def dCons (de : DE) (da : DA) : DA := fun env M q E => de env M (fun x M1 => da env M1 (fun xs M2 => q (x :: xs) M2) E) E
theorem ad_nil : AD X W [] dNil := paImp pa_nil fun σ H Q ⟨env, M, q, E, H0, so, S, h, k, kx⟩ => k [] [] H0 H M (Ext.refl H0) S .nil h
theorem ad_cons {e : Expr} {es : List Expr} {de : DE} {da : DA} (he : PD X W e de) (hr : AD X W es da) (hs : starEach (e :: es) X.env = (false, eval e X.env) :: starEach es X.env := by rfl) : AD X W (e :: es) (dCons de da) :=
  paImp (pa_cons he hr hs) fun σ H Q ⟨env, M, q, E, H0, so, S, h, k, kx⟩ =>
    goE so S h kx fun x dx H1 H' M1 e1 so1 S1 rx h1 kx1 => goA so1 S1 h1 kx1 fun xs ds H2 H'' M2 e2 so2 S2 rs h2 kx2 => k _ _ H2 H'' M2 (e1.trans e2) S2 (.cons (rx.mono e2) rs) h2
/-- a value's truth -/
def truD (M : Mem) : D → Option Bool
  | .non => some false
  | .bl b => some b
  | .int i => some (i != 0)
  | .str y => if y.length ≤ 16777216 then some ((y.length : Int) != 0) else none
  | .lst xs => some (!xs.isEmpty)
  | .lsf xs => some (!xs.isEmpty)
  | .tup xs => some (!xs.isEmpty)
  | .cel c => (celL M c).map fun xs => !xs.isEmpty
  | .dic ks _ => some (!ks.isEmpty)
  | _ => none
theorem isE {K : PySem.W.Frag} {H : Hp} {vs : List V} {ds : List D} (r : DnL K H vs ds) : vs.isEmpty = ds.isEmpty := by cases r <;> rfl
theorem SD.tru {K : PySem.W.Frag} {H0 H : Hp} {M : Mem} (S : SD K H0 H M) {v : V} {d : D} {b : Bool} (h : Dn K H0 v d) (e : truD M d = some b) : TruV K v H b := by
  cases h with
  | non => cases e; rfl
  | bl => cases e; rfl
  | int => cases e; rfl
  | str y =>
    have e' : (if y.length ≤ 16777216 then some ((y.length : Int) != 0) else none) = some b := e
    by_cases c : y.length ≤ 16777216
    · rw [if_pos c] at e'; cases e'; exact ⟨by rw [sizeLine_eq]; exact c, rfl⟩
    · rw [if_neg c] at e'; cases e'
  | ty => cases e
  | cel c =>
    obtain ⟨xs, e1, rfl⟩ := omap (show (celL M c).map (fun xs => !xs.isEmpty) = some b from e)
    obtain ⟨_, vs, e2, r⟩ := S.cell c xs (celL_eq e1)
    exact .inl ⟨vs, SqL.of e2, by rw [isE r]⟩
  | lst h r => cases e; exact .inl ⟨_, SqL.of (S.ex _ _ h), by rw [isE r]⟩
  | lsf h r => cases e; exact .inl ⟨_, S.ex.sqL h, by rw [isE r]⟩
  | tup h r => cases e; exact .inr (.inl ⟨_, S.ex.sqT h, by rw [isE r]⟩)
  | dic h r =>
    cases e
    exact .inr (.inr ⟨_, S.ex _ _ h, by rw [List.isEmpty_map]⟩)
  | ins => cases e
@[reducible] def dTru (de : DE) : DT := fun env M q E => de env M (fun d M1 => ∃ b, truD M1 d = some b ∧ q b M1) E
theorem td_tru {e : Expr} {de : DE} (h : PD X W e de) (he : ∀ whole, isTrue e X.env whole = (do let v ← whole; standAt e.pos; holding [v] (truthy v)) := by intro _; rfl) : TD X W e (dTru de) :=
  ptImp (pt_truth h he) fun σ H Q ⟨env, M, q, E, H0, so, S, h, k, kx⟩ => goE so S h kx fun x dx H1 H' M1 e1 so1 S1 rx ⟨b, eb, w⟩ kx1 => ⟨b, S1.tru rx eb, k b H1 H' M1 e1 S1 w⟩
/-- a comparison as a test -/
@[reducible] def dTst (de : DE) : DT := fun env M q E => de env M (fun d M1 => ∃ b, d = .bl b ∧ q b M1) E
theorem lift_tst {K : PySem.W.Frag} {de : DE} {te : TE} (z : ∀ σ H Q, liftE K W de σ H Q → te σ H Q) : ∀ σ H Q, liftT K W (dTst de) σ H Q → tTest te σ H Q := fun σ H Q ⟨env, M, q, E, H0, so, S, h, k, kx⟩ =>
  z _ _ _ (goE so S h kx fun x dx H1 H' M1 e1 so1 S1 rx ⟨b, eb, w⟩ kx1 => by subst eb; exact ⟨b, rx.inv_bl, k b H1 H' M1 e1 S1 w⟩)
theorem td_cmp {op : CmpOp} {rd : RD2} {a b : Expr} {da db : DE} {pos : Pos} (ho : OpD X (compareOp op) rd) (ha : PD X W a da) (hb : PD X W b db) (hm : behindInMarks op b = false) : TD X W (.Compare a [op] [b] pos) (dTst (dOp rd da db)) := by
  obtain ⟨r, o, z⟩ := ho
  exact ptImp (pt_cmpR o ha hb hm) (lift_tst (lift_op z))
/-- chains -/
@[reducible] def dChn (r r' : RD2) (da db dc : DE) : DE := fun env M q E => da env M (fun x M1 => db env M1 (fun y M2 => r x y M2 (fun z M3 => ∃ b, z = .bl b ∧ if b = true then dc env M3 (fun w M4 => r' y w M4 q) E else q (.bl false) M3)) E) E
theorem lift_chn {K : PySem.W.Frag} {rd rd' : RD2} {r r' : R2} {da db dc : DE} (z : ∀ H0 H M x y dx dy q Q, SD K H0 H M → Dn K H0 x dx → Dn K H0 y dy → rd dx dy M q → KQ K H0 q Q → r x y H Q)
    (z' : ∀ H0 H M x y dx dy q Q, SD K H0 H M → Dn K H0 x dx → Dn K H0 y dy → rd' dx dy M q → KQ K H0 q Q → r' x y H Q) : ∀ σ H Q, liftE K W (dChn rd rd' da db dc) σ H Q → tChain r r' (liftE K W da) (liftE K W db) (liftE K W dc) σ H Q := fun σ H Q ⟨env, M, q, E, H0, so, S, h, k, kx⟩ =>
  goE so S h kx fun x dx H1 H' M1 e1 so1 S1 rx h1 kx1 => goE so1 S1 h1 kx1 fun y dy H2 H'' M2 e2 so2 S2 ry h2 kx2 => z H2 H'' M2 x y dx dy _ _ S2 (rx.mono e2) ry h2 fun v d H3 H3' M3 e3 S3 rz ⟨b, eb, w⟩ => by
    subst eb
    refine ⟨b, rz.inv_bl, ?_⟩
    cases b with
    | true =>
      refine iteT ?_
      exact goE (so2.mono e3) S3 (show dc env M3 _ E from w) (kx2.mono e3) fun u du H4 H4' M4 e4 so4 S4 ru w4 kx4 => z' H4 H4' M4 y u dy du q Q S4 (ry.mono (e3.trans e4)) ru w4 (k.mono (((e1.trans e2).trans e3).trans e4))
    | false =>
      refine iteF ?_
      exact k _ _ H3 H3' M3 ((e1.trans e2).trans e3) S3 (.bl false) w
theorem pd_chn {op op' : CmpOp} {rd rd' : RD2} {a b c : Expr} {da db dc : DE} {pos : Pos} (ho : OpD X (compareOp op) rd) (ho' : OpD X (compareOp op') rd') (ha : PD X W a da) (hb : PD X W b db) (hc : PD X W c dc)
    (hm : lastMarks [op, op'] [b, c] = false := by with_unfolding_all rfl) : PD X W (.Compare a [op, op'] [b, c] pos) (dChn rd rd' da db dc) := by
  obtain ⟨r, o, z⟩ := ho
  obtain ⟨r', o', z'⟩ := ho'
  exact peImp (pe_chain o o' ha hb hc hm) (lift_chn z z')
theorem td_chn {op op' : CmpOp} {rd rd' : RD2} {a b c : Expr} {da db dc : DE} {pos : Pos} (ho : OpD X (compareOp op) rd) (ho' : OpD X (compareOp op') rd') (ha : PD X W a da) (hb : PD X W b db) (hc : PD X W c dc)
    (hm : lastMarks [op, op'] [b, c] = false := by with_unfolding_all rfl) : TD X W (.Compare a [op, op'] [b, c] pos) (dTst (dChn rd rd' da db dc)) := by
  obtain ⟨r, o, z⟩ := ho
  obtain ⟨r', o', z'⟩ := ho'
  exact ptImp (pt_chain o o' ha hb hc hm) (lift_tst (lift_chn z z'))
/-- and, or, not as tests -/
def WD (X : Cx) (W : WX) (e : Expr) (dt : DT) : Prop := PW X e (liftT X.K W dt)
@[reducible] def dAnd (a b : DT) : DT := fun env M q E => a env M (fun c M1 => if c = true then b env M1 q E else q false M1) E
@[reducible] def dOr (a b : DT) : DT := fun env M q E => a env M (fun c M1 => if c = true then q true M1 else b env M1 q E) E
@[reducible] def dNot (a : DT) : DT := fun env M q E => a env M (fun c M1 => q (!c) M1) E
theorem pwImp {e : Expr} {t t' : TT} (h : PW X e t) (i : ∀ σ H Q, t' σ H Q → t σ H Q) : PW X e t' := ⟨fun w pins s σ H Q I q => h.run w pins s σ H Q I (i σ H Q q)⟩
theorem lift_and {K : PySem.W.Frag} {a b : DT} : ∀ σ H Q, liftT K W (dAnd a b) σ H Q → tAnd (liftT K W a) (liftT K W b) σ H Q := fun σ H Q ⟨env, M, q, E, H0, so, S, h, k, kx⟩ =>
  goT so S h kx fun c H1 H' M1 e1 so1 S1 h1 kx1 => by
    cases c with
    | true => exact iteT ⟨env, M1, q, E, H1, so1, S1, h1, k.mono e1, kx1⟩
    | false => exact iteF (k false H1 H' M1 e1 S1 h1)
theorem lift_or {K : PySem.W.Frag} {a b : DT} : ∀ σ H Q, liftT K W (dOr a b) σ H Q → tOr (liftT K W a) (liftT K W b) σ H Q := fun σ H Q ⟨env, M, q, E, H0, so, S, h, k, kx⟩ =>
  goT so S h kx fun c H1 H' M1 e1 so1 S1 h1 kx1 => by
    cases c with
    | true => exact iteT (k true H1 H' M1 e1 S1 h1)
    | false => exact iteF ⟨env, M1, q, E, H1, so1, S1, h1, k.mono e1, kx1⟩
theorem wd_and1 {a : Expr} {da : DT} {pos : Pos} (h : TD X W a da) : WD X W (.BoolOp .And [a] pos) da := pw_and1 h
theorem wd_or1 {a : Expr} {da : DT} {pos : Pos} (h : TD X W a da) : WD X W (.BoolOp .Or [a] pos) da := pw_or1 h
theorem wd_and {a b : Expr} {rest : List Expr} {da db : DT} {pos : Pos} (h : TD X W a da) (h' : WD X W (.BoolOp .And (b :: rest) pos) db) : WD X W (.BoolOp .And (a :: b :: rest) pos) (dAnd da db) := pwImp (pw_and h h') lift_and
theorem wd_or {a b : Expr} {rest : List Expr} {da db : DT} {pos : Pos} (h : TD X W a da) (h' : WD X W (.BoolOp .Or (b :: rest) pos) db) : WD X W (.BoolOp .Or (a :: b :: rest) pos) (dOr da db) := pwImp (pw_or h h') lift_or
theorem td_w {e : Expr} {dt : DT} (h : WD X W e dt) : TD X W e dt := PW.pt h
theorem td_not {a : Expr} {da : DT} {pos : Pos} (h : TD X W a da) : TD X W (.UnaryOp .Not a pos) (dNot da) := ptImp (pt_not h) fun σ H Q ⟨env, M, q, E, H0, so, S, h, k, kx⟩ =>
  goT so S h kx fun c H1 H' M1 e1 so1 S1 h1 kx1 => k _ H1 H' M1 e1 S1 h1
/-- as values, all but the last True or False -/
@[reducible] def dAndV (a b : DE) : DE := fun env M q E => a env M (fun x M1 => ∃ c, x = .bl c ∧ if c = true then b env M1 q E else q (.bl false) M1) E
@[reducible] def dOrV (a b : DE) : DE := fun env M q E => a env M (fun x M1 => ∃ c, x = .bl c ∧ if c = true then q (.bl true) M1 else b env M1 q E) E
@[reducible] def dNotV (a : DE) : DE := fun env M q E => a env M (fun x M1 => ∃ c, x = .bl c ∧ q (.bl (!c)) M1) E
theorem pd_one {op} {a : Expr} {da : DE} {pos : Pos} (h : PD X W a da) : PD X W (.BoolOp op [a] pos) da := pe_one h
theorem pd_and {a b : Expr} {rest : List Expr} {da db : DE} {pos : Pos} (h : PD X W a da) (h' : PD X W (.BoolOp .And (b :: rest) pos) db) : PD X W (.BoolOp .And (a :: b :: rest) pos) (dAndV da db) :=
  peImp (pe_and h h') fun σ H Q ⟨env, M, q, E, H0, so, S, h, k, kx⟩ => goE so S h kx fun x dx H1 H' M1 e1 so1 S1 rx ⟨c, ec, w⟩ kx1 => by
    subst ec
    refine ⟨c, rx.inv_bl, ?_⟩
    cases c with
    | true => exact iteT ⟨env, M1, q, E, H1, so1, S1, w, k.mono e1, kx1⟩
    | false => exact iteF (k _ _ H1 H' M1 e1 S1 (.bl false) w)
theorem pd_or {a b : Expr} {rest : List Expr} {da db : DE} {pos : Pos} (h : PD X W a da) (h' : PD X W (.BoolOp .Or (b :: rest) pos) db) : PD X W (.BoolOp .Or (a :: b :: rest) pos) (dOrV da db) :=
  peImp (pe_or h h') fun σ H Q ⟨env, M, q, E, H0, so, S, h, k, kx⟩ => goE so S h kx fun x dx H1 H' M1 e1 so1 S1 rx ⟨c, ec, w⟩ kx1 => by
    subst ec
    refine ⟨c, rx.inv_bl, ?_⟩
    cases c with
    | true => exact iteT (k _ _ H1 H' M1 e1 S1 (.bl true) w)
    | false => exact iteF ⟨env, M1, q, E, H1, so1, S1, w, k.mono e1, kx1⟩
theorem pd_not {a : Expr} {da : DE} {pos : Pos} (h : PD X W a da) : PD X W (.UnaryOp .Not a pos) (dNotV da) :=
  peImp (pe_not h) fun σ H Q ⟨env, M, q, E, H0, so, S, h, k, kx⟩ => goE so S h kx fun x dx H1 H' M1 e1 so1 S1 rx ⟨c, ec, w⟩ kx1 => by
    subst ec
    exact ⟨c, rx.inv_bl, k _ _ H1 H' M1 e1 S1 (.bl _) w⟩
@[reducible] def dIf (t : DT) (a b : DE) : DE := fun env M q E => t env M (fun c M1 => if c = true then a env M1 q E else b env M1 q E) E
theorem pd_if {c a b : Expr} {dt : DT} {da db : DE} {pos : Pos} (hc : TD X W c dt) (ha : PD X W a da) (hb : PD X W b db) : PD X W (.IfExp c a b pos) (dIf dt da db) :=
  peImp (pe_ifExp hc ha hb) fun σ H Q ⟨env, M, q, E, H0, so, S, h, k, kx⟩ => goT so S h kx fun c H1 H' M1 e1 so1 S1 h1 kx1 => by
    cases c with
    | true => exact iteT ⟨env, M1, q, E, H1, so1, S1, h1, k.mono e1, kx1⟩
    | false => exact iteF ⟨env, M1, q, E, H1, so1, S1, h1, k.mono e1, kx1⟩
@[reducible] def dTup (da : DA) : DE := fun env M q E => da env M (fun ds M1 => ds.length ≤ sizeLine ∧ q (.tup ds) M1) E
@[reducible] def dLst (da : DA) : DE := fun env M q E => da env M (fun ds M1 => ds.length ≤ sizeLine ∧ q (.lst ds) M1) E
/-- a list that will change -/
@[reducible] def dLstC (da : DA) : DE := fun env M q E => da env M (fun ds M1 => ds.length ≤ sizeLine ∧ ∀ a, M1 a = none → q (.cel a) (mset M1 a (.ls ds))) E
theorem pd_tup {es : List Expr} {da : DA} {x1 pos} (h : AD X W es da) : PD X W (.Tuple es x1 pos) (dTup da) := peImp (pe_tup h) fun σ H Q ⟨env, M, q, E, H0, so, S, h, k, kx⟩ =>
  goA so S h kx fun xs ds H1 H' M1 e1 so1 S1 rs ⟨z, w⟩ kx1 => ⟨by rw [rs.length]; exact z, (k.mono e1).newT S1 rs w⟩
theorem pd_lst {es : List Expr} {da : DA} {pos} (h : AD X W es da) : PD X W (.List es pos) (dLst da) := peImp (pe_lst h) fun σ H Q ⟨env, M, q, E, H0, so, S, h, k, kx⟩ =>
  goA so S h kx fun xs ds H1 H' M1 e1 so1 S1 rs ⟨z, w⟩ kx1 => ⟨by rw [rs.length]; exact z, (k.mono e1).newL S1 rs w⟩
theorem pd_lstC {es : List Expr} {da : DA} {pos} (h : AD X W es da) : PD X W (.List es pos) (dLstC da) := peImp (pe_lst h) fun σ H Q ⟨env, M, q, E, H0, so, S, h, k, kx⟩ =>
  goA so S h kx fun xs ds H1 H' M1 e1 so1 S1 rs ⟨z, w⟩ kx1 => ⟨by rw [rs.length]; exact z, (k.mono e1).newC S1 rs w⟩
theorem lift_CB {K : PySem.W.Frag} {rd : RDL} {r : List V → Hp → VK → Prop} {da : DA} (z : ∀ H0 H M xs ds q Q, SD K H0 H M → DnL K H0 xs ds → rd ds M q → KQ K H0 q Q → r xs H Q) : ∀ σ H Q, liftE K W (dCB rd da) σ H Q → tCB r (liftA K W da) σ H Q :=
  fun σ H Q ⟨env, M, q, E, H0, so, S, h, k, kx⟩ => goA so S h kx fun xs ds H1 H' M1 e1 so1 S1 rs w kx1 => z H1 H' M1 xs ds q Q S1 rs w (k.mono e1)
theorem pd_callB {x : Str} {p pos : Pos} {e : Expr} {es : List Expr} {da : DA} {id : String} {rd : RDL} (hc : CallD X (.builtin id) rd) (hg : Gl X x) (hm : X.mg x = none) (hv : bootBuiltins x = some (.builtin id)) (ha : AD X W (e :: es) da) (hn : x ≠ "__name__" := by decide) (hdb : (x == ("__debug__" : Str)) = false := by decide)
    (he : starEach (e :: es) X.env = (false, eval e X.env) :: starEach es X.env := by rfl) (hpl : (backTo pos (starEach es X.env)).any (·.1) = false := by rfl) : PD X W (.Call (.Name x p) (e :: es) [] pos) (dCB rd da) := by
  obtain ⟨r, o, z⟩ := hc
  exact peImp (pe_callB o hg hm hv ha hn hdb he hpl) (lift_CB z)
theorem pd_callTy {x : Str} {p pos : Pos} {e : Expr} {es : List Expr} {da : DA} {T : String} {rd : RDL} (hc : CallD X (.type T) rd) (hg : Gl X x) (hm : X.mg x = none) (hv : bootBuiltins x = some (.type T)) (ha : AD X W (e :: es) da) (hn : x ≠ "__name__" := by decide) (hdb : (x == ("__debug__" : Str)) = false := by decide)
    (he : starEach (e :: es) X.env = (false, eval e X.env) :: starEach es X.env := by rfl) (hpl : (backTo pos (starEach es X.env)).any (·.1) = false := by rfl) : PD X W (.Call (.Name x p) (e :: es) [] pos) (dCB rd da) := by
  obtain ⟨r, o, z⟩ := hc
  exact peImp (pe_callTy o hg hm hv ha hn hdb he hpl) (lift_CB z)
/-- len -/
def rdLen : RDL := fun ds M q => ∃ d, ds = [d] ∧ match d with
  | .str z => z.length ≤ sizeLine ∧ q (.int z.length) M
  | d => ∃ xs, seqOf M d = some xs ∧ q (.int xs.length) M
theorem dnl1 {K : PySem.W.Frag} {H : Hp} {vs : List V} {d : D} (h : DnL K H vs [d]) : ∃ v, vs = [v] ∧ Dn K H v d := by
  cases h with
  | cons a r => cases r; exact ⟨_, rfl, a⟩
theorem dnl2 {K : PySem.W.Frag} {H : Hp} {vs : List V} {d e : D} (h : DnL K H vs [d, e]) : ∃ v w, vs = [v, w] ∧ Dn K H v d ∧ Dn K H w e := by
  cases h with
  | cons a r => obtain ⟨w, rfl, b⟩ := dnl1 r; exact ⟨_, w, rfl, a, b⟩
theorem cd_lenQ : CallD X (.builtin "len") (fun ds M q => ∃ d xs, ds = [d] ∧ seqOf M d = some xs ∧ q (.int xs.length) M) := ⟨_, call_len_seq, fun H0 H M xs ds q Q S r w k => by
  obtain ⟨d, ys, rfl, e, w⟩ := w
  obtain ⟨v, rfl, rv⟩ := dnl1 r
  obtain ⟨a, vs, rfl, hs, rs⟩ := S.seq rv e
  exact ⟨a, vs, rfl, hs, by rw [rs.length]; exact k.here S (.int _) w⟩⟩
theorem cd_lenS : CallD X (.builtin "len") (fun ds M q => ∃ z, ds = [.str z] ∧ z.length ≤ sizeLine ∧ q (.int z.length) M) := ⟨_, call_len_str, fun H0 H M xs ds q Q S r w k => by
  obtain ⟨z, rfl, e, w⟩ := w
  obtain ⟨v, rfl, rv⟩ := dnl1 r
  cases rv
  exact ⟨z, rfl, e, k.here S (.int _) w⟩⟩
theorem cd_len : CallD X (.builtin "len") rdLen := (cd_lenS.or cd_lenQ).imp fun ds M q ⟨d, e, h⟩ => by
  subst e
  cases d <;> first
    | exact .inl ⟨_, rfl, h.1, h.2⟩
    | exact .inr ⟨_, h.choose, rfl, h.choose_spec.1, h.choose_spec.2⟩
/-- list(x), frozen or to be changed; tuple(x) -/
def rdList : RDL := fun ds M q => ∃ d xs, ds = [d] ∧ seqOf M d = some xs ∧ q (.lst xs) M
theorem cd_list : CallD X (.type "list") rdList := ⟨_, call_list_of, fun H0 H M xs ds q Q S r w k => by
  obtain ⟨d, ys, rfl, e, w⟩ := w
  obtain ⟨v, rfl, rv⟩ := dnl1 r
  obtain ⟨a, vs, rfl, hs, rs⟩ := S.seq rv e
  exact ⟨a, vs, rfl, hs, k.newL S rs w⟩⟩
def rdTuple : RDL := fun ds M q => ∃ d xs, ds = [d] ∧ seqOf M d = some xs ∧ q (.tup xs) M
theorem cd_tuple : CallD X (.type "tuple") rdTuple := ⟨_, call_tuple_of, fun H0 H M xs ds q Q S r w k => by
  obtain ⟨d, ys, rfl, e, w⟩ := w
  obtain ⟨v, rfl, rv⟩ := dnl1 r
  cases rv with
  | tup h rs => cases e; exact ⟨_, _, rfl, .inr ⟨S.ex.sqT h, k.here S (.tup h rs) w⟩⟩
  | lst h rs => cases e; exact ⟨_, _, rfl, .inl ⟨SqL.of (S.ex _ _ h), k.newT S rs w⟩⟩
  | lsf h rs => cases e; exact ⟨_, _, rfl, .inl ⟨S.ex.sqL h, k.newT S rs w⟩⟩
  | cel c =>
    obtain ⟨_, vs, e2, rs⟩ := S.cell c ys (celL_eq e)
    exact ⟨_, _, rfl, .inl ⟨SqL.of e2, k.newT S rs w⟩⟩
  | _ => cases e⟩
def rdAbs : RDL := fun ds M q => match ds with
  | [.int i] => q (.int (if i < 0 then -i else i)) M
  | _ => False
theorem cd_abs : CallD X (.builtin "abs") rdAbs := ⟨_, call_abs, fun H0 H M xs ds q Q S r w k => by
  unfold rdAbs at w
  split at w
  · obtain ⟨v, rfl, rv⟩ := dnl1 r
    cases rv
    exact ⟨_, rfl, k.here S (.int _) w⟩
  · exact False.elim w⟩
def rdInt : RDL := fun ds M q => match ds with
  | [.int i] => q (.int i) M
  | [.bl b] => q (.int (if b then 1 else 0)) M
  | _ => False
theorem cd_int : CallD X (.type "int") rdInt := ⟨_, call_int1, fun H0 H M xs ds q Q S r w k => by
  unfold rdInt at w
  split at w
  · obtain ⟨v, rfl, rv⟩ := dnl1 r
    cases rv
    exact .inl ⟨_, rfl, k.here S (.int _) w⟩
  · obtain ⟨v, rfl, rv⟩ := dnl1 r
    cases rv
    exact .inr ⟨_, rfl, k.here S (.int _) w⟩
  · exact False.elim w⟩
def rdStrI : RDL := fun ds M q => match ds with
  | [.int i] => i.natAbs.log2 < 1920 ∧ q (.str (toString i)) M
  | _ => False
theorem cd_strI : CallD X (.type "str") rdStrI := ⟨_, call_str_int, fun H0 H M xs ds q Q S r w k => by
  unfold rdStrI at w
  split at w
  · obtain ⟨v, rfl, rv⟩ := dnl1 r
    cases rv
    exact ⟨_, rfl, w.1, k.here S (.str _) w.2⟩
  · exact False.elim w⟩
def rdMin2 : RDL := fun ds M q => match ds with
  | [.int i, .int j] => q (.int (if j < i then j else i)) M
  | _ => False
theorem cd_min2 (hc : X.calm = true) : CallD X (.builtin "min") rdMin2 := ⟨_, call_min2 hc, fun H0 H M xs ds q Q S r w k => by
  unfold rdMin2 at w
  split at w
  · obtain ⟨v, u, rfl, rv, ru⟩ := dnl2 r
    cases rv; cases ru
    exact ⟨_, _, rfl, k.here S (.int _) w⟩
  · exact False.elim w⟩
def rdMax2 : RDL := fun ds M q => match ds with
  | [.int i, .int j] => q (.int (if j > i then j else i)) M
  | _ => False
theorem cd_max2 (hc : X.calm = true) : CallD X (.builtin "max") rdMax2 := ⟨_, call_max2 hc, fun H0 H M xs ds q Q S r w k => by
  unfold rdMax2 at w
  split at w
  · obtain ⟨v, u, rfl, rv, ru⟩ := dnl2 r
    cases rv; cases ru
    exact ⟨_, _, rfl, k.here S (.int _) w⟩
  · exact False.elim w⟩
def rdDivmod : RDL := fun ds M q => match ds with
  | [.int i, .int j] => CDiv i j ∧ q (.tup [.int (i / j), .int (i % j)]) M
  | _ => False
theorem cd_divmod : CallD X (.builtin "divmod") rdDivmod := ⟨_, call_divmod, fun H0 H M xs ds q Q S r w k => by
  unfold rdDivmod at w
  split at w
  · obtain ⟨v, u, rfl, rv, ru⟩ := dnl2 r
    cases rv; cases ru
    exact ⟨_, _, rfl, w.1, k.newT S (.cons (.int _) (.cons (.int _) .nil)) w.2⟩
  · exact False.elim w⟩
/-- all, any of a list of bools -/
def bls : List D → Option (List Bool)
  | [] => some []
  | .bl b :: ds => (bls ds).map (b :: ·)
  | _ => none
theorem bls_dn {K : PySem.W.Frag} {H : Hp} : ∀ {ds : List D} {vs : List V} {bs : List Bool}, DnL K H vs ds → bls ds = some bs → vs = bs.map V.bl
  | _, _, _, .nil, e => by cases e; rfl
  | _, _, _, .cons (d := .bl b) h r, e => by
    obtain ⟨cs, e1, rfl⟩ := omap (show (bls _).map (b :: ·) = some _ from e)
    rw [h.inv_bl, bls_dn r e1]; rfl
  | _, _, _, .cons (d := .non) _ _, e | _, _, _, .cons (d := .int _) _ _, e | _, _, _, .cons (d := .str _) _ _, e | _, _, _, .cons (d := .ty _) _ _, e | _, _, _, .cons (d := .lst _) _ _, e
  | _, _, _, .cons (d := .lsf _) _ _, e | _, _, _, .cons (d := .tup _) _ _, e | _, _, _, .cons (d := .dic _ _) _ _, e | _, _, _, .cons (d := .ins _ _ _) _ _, e | _, _, _, .cons (d := .cel _) _ _, e => by cases e
def rdAll : RDL := fun ds M q => ∃ d xs bs, ds = [d] ∧ (lstOf M d = some xs) ∧ bls xs = some bs ∧ q (.bl (bs.all id)) M
theorem cd_all (hc : X.calm = true) : CallD X (.builtin "all") rdAll := ⟨_, cr_all hc, fun H0 H M xs ds q Q S r w k => by
  obtain ⟨d, ys, bs, rfl, e, eb, w⟩ := w
  obtain ⟨v, rfl, rv⟩ := dnl1 r
  obtain ⟨a, vs, rfl, hs, rs⟩ := S.lst rv e
  have z := bls_dn rs eb
  subst z
  exact ⟨a, bs, rfl, SqL.of hs, k.here S (.bl _) w⟩⟩
def rdAny : RDL := fun ds M q => ∃ d xs bs, ds = [d] ∧ (lstOf M d = some xs) ∧ bls xs = some bs ∧ q (.bl (bs.any id)) M
theorem cd_any (hc : X.calm = true) : CallD X (.builtin "any") rdAny := ⟨_, cr_any hc, fun H0 H M xs ds q Q S r w k => by
  obtain ⟨d, ys, bs, rfl, e, eb, w⟩ := w
  obtain ⟨v, rfl, rv⟩ := dnl1 r
  obtain ⟨a, vs, rfl, hs, rs⟩ := S.lst rv e
  have z := bls_dn rs eb
  subst z
  exact ⟨a, bs, rfl, SqL.of hs, k.here S (.bl _) w⟩⟩
/-- repr of plain data -/
def rReprD (K : PySem.W.Frag) : List V → Hp → VK → Prop := fun xs H Q => ∃ x d, xs = [x] ∧ Dp K H x d ∧ d.showable = true ∧ d.hasDict = false ∧ d.depth ≤ 100 ∧ d.shown.length ≤ sizeLine ∧ Q (.str d.shown) H
theorem call_reprD (hg : X.A.guards = some []) (hu : X.A.units + 200 < cLine) : CallR X (.builtin "repr") (rReprD X.K) := by
  intro pins s σ H xs us Q I r h
  obtain ⟨x, d, rfl, hd, hs, hh, hdp, hz, q⟩ := h
  obtain ⟨u, rfl, rx⟩ := vals1 r
  obtain ⟨as, rd⟩ := Dp.reads I d x u hd rx
  have fin : ∀ (h' : Heap) (t : Tok) (tk : Nat), (∀ b o, s.heap.get? b = some o → h'.get? b = some o) → EP X pins σ Q (.str d.shown t) { s with heap := h', toks := tk } := fun h' t tk k => ⟨.str d.shown, H, I.kept k, ⟨t, rfl⟩, q⟩
  cases hd with
  | non => cases rx; exact PySem.P.repr_of_none ⟨.str _, H, I.tok _, ⟨_, rfl⟩, q⟩
  | bl b => cases rx; exact PySem.P.repr_of_bool ⟨.str _, H, I.tok _, ⟨_, rfl⟩, q⟩
  | int i =>
    obtain ⟨t, rfl⟩ := rx
    exact PySem.P.repr_of_int (of_decide_eq_true hs) ⟨.str _, H, I.tok _, ⟨_, rfl⟩, q⟩
  | str z =>
    obtain ⟨t, rfl⟩ := rx
    exact PySem.P.repr_of_str (hsz := hz) ⟨.str _, H, I.tok _, ⟨_, rfl⟩, q⟩
  | lst _ _ => cases rx; exact repr_of_reads' rd hs (PyData.noDict_hsm hh) hg (by omega) (fun _ _ e => e) (fun h' t tk k => fin h' t tk k) hz
  | tup _ _ => cases rx; exact repr_of_reads' rd hs (PyData.noDict_hsm hh) hg (by omega) (fun _ _ e => e) (fun h' t tk k => fin h' t tk k) hz
/-- what may be shown -/
def showOk (p : PyData) : Prop := p.showable = true ∧ p.hasDict = false ∧ p.depth ≤ 100 ∧ p.shown.length ≤ sizeLine
def rdRepr : RDL := fun ds M q => ∃ d p, ds = [d] ∧ pyOf M d = some p ∧ showOk p ∧ q (.str p.shown) M
theorem cd_repr (hg : X.A.guards = some []) (hu : X.A.units + 200 < cLine) : CallD X (.builtin "repr") rdRepr := ⟨_, call_reprD hg hu, fun H0 H M xs ds q Q S r w k => by
  obtain ⟨d, p, rfl, e, ⟨z1, z2, z3, z4⟩, w⟩ := w
  obtain ⟨v, rfl, rv⟩ := dnl1 r
  exact ⟨v, p, rfl, S.py rv e, z1, z2, z3, z4, k.here S (.str _) w⟩⟩
end
section
variable {X : Cx} {W : WX}
def IxD (X : Cx) (rd : RD2) : Prop := ∃ r, IxR X r ∧ ∀ H0 H M x y dx dy q Q, SD X.K H0 H M → Dn X.K H0 x dx → Dn X.K H0 y dy → rd dx dy M q → KQ X.K H0 q Q → r x y H Q
theorem IxD.or {a b : RD2} (h : IxD X a) (h' : IxD X b) : IxD X (fun x y M q => a x y M q ∨ b x y M q) := by
  obtain ⟨r, o, z⟩ := h
  obtain ⟨r', o', z'⟩ := h'
  exact ⟨_, o.or o', fun H0 H M x y dx dy q Q S hx hy w k => w.elim (fun w => .inl (z H0 H M x y dx dy q Q S hx hy w k)) fun w => .inr (z' H0 H M x y dx dy q Q S hx hy w k)⟩
theorem IxD.imp {a b : RD2} (h : IxD X a) (i : ∀ x y M q, b x y M q → a x y M q) : IxD X b := by
  obtain ⟨r, o, z⟩ := h
  exact ⟨r, o, fun H0 H M x y dx dy q Q S hx hy w k => z H0 H M x y dx dy q Q S hx hy (i _ _ _ _ w) k⟩
theorem pd_ix {rd : RD2} {a b : Expr} {da db : DE} {pos : Pos} (ho : IxD X rd) (ha : PD X W a da) (hb : PD X W b db) (hs : PlainIx b) : PD X W (.Subscript a b pos) (dOp rd da db) := by
  obtain ⟨r, o, z⟩ := ho
  exact peImp (pe_ix o ha hb hs) (lift_op z)
theorem atI_dn {K : PySem.W.Frag} {H : Hp} {vs : List V} {ds : List D} {i : Int} {d : D} (r : DnL K H vs ds) (h : atI ds i = some d) : ∃ v, atI vs i = some v ∧ Dn K H v d := by
  unfold atI at h ⊢
  rw [r.length]
  cases e : ixN ds.length i with
  | none => rw [e] at h; cases h
  | some j =>
    rw [e] at h
    obtain ⟨v, e1, rv⟩ := r.get (show ds[j]? = some d from h)
    exact ⟨v, e1, rv⟩
def rdIxQ : RD2 := fun x y M q => ∃ xs i d, seqOf M x = some xs ∧ y = .int i ∧ atI xs i = some d ∧ q d M
def rdIxS : RD2 := fun x y M q => ∃ z i c, x = .str z ∧ y = .int i ∧ z.length ≤ sizeLine ∧ atI z.cps.toList i = some c ∧ q (.str ⟨#[c]⟩) M
def rdIx : RD2 := fun x y M q => match x with
  | .str z => rdIxS (.str z) y M q
  | x => rdIxQ x y M q
theorem ixd_q : IxD X rdIxQ := ⟨_, ix_list.or ix_tup, fun H0 H M x y dx dy q Q S hx hy w k => by
  obtain ⟨xs, i, d, e, rfl, ea, w⟩ := w
  cases hy
  obtain ⟨a, vs, rfl, hs, r⟩ := S.seq hx e
  obtain ⟨v, e1, rv⟩ := atI_dn r ea
  exact hs.elim (fun hs => .inl ⟨a, vs, i, v, rfl, rfl, hs, e1, k.here S rv w⟩) fun hs => .inr ⟨a, vs, i, v, rfl, rfl, hs, e1, k.here S rv w⟩⟩
theorem ixd_s : IxD X rdIxS := ⟨_, ix_str, fun H0 H M x y dx dy q Q S hx hy w k => by
  obtain ⟨z, i, c, rfl, rfl, z1, ea, w⟩ := w
  cases hx; cases hy
  exact ⟨z, i, c, rfl, rfl, z1, ea, k.here S (.str _) w⟩⟩
theorem ixd : IxD X rdIx := (ixd_s.or ixd_q).imp fun x y M q h => by
  cases x <;> first
    | exact .inl h
    | exact .inr h
/-- slices -/
abbrev DO := EnvD → Mem → (Option Int → Mem → Prop) → XD → Prop
def liftO (K : PySem.W.Frag) (W : WX) (dO : DO) : TO := fun σ H Q => ∃ env M q E H0, SlotOk K H0 σ env ∧ SD K H0 H M ∧ dO env M q E ∧ (∀ o H0' H' M', Ext H0 H0' → SD K H0' H' M' → q o M' → Q o H') ∧ KX K H0 E fun c d => W c d σ
def OD (X : Cx) (W : WX) (e : Option Expr) (d : DO) : Prop := PO X e (liftO X.K W d)
@[reducible] def dNo : DO := fun _ M q _ => q none M
@[reducible] def dPart (de : DE) : DO := fun env M q E => de env M (fun d M1 => ∃ i, d = .int i ∧ q (some i) M1) E
theorem poImp {e : Option Expr} {t t' : TO} (h : PO X e t) (i : ∀ σ H Q, t' σ H Q → t σ H Q) : PO X e t' := ⟨fun pins s σ H Q I q => h.run pins s σ H Q I (i σ H Q q)⟩
theorem od_no : OD X W none dNo := poImp po_none fun σ H Q ⟨env, M, q, E, H0, so, S, h, k, kx⟩ => k none H0 H M (Ext.refl H0) S h
theorem od_some {e : Expr} {de : DE} (h : PD X W e de) : OD X W (some e) (dPart de) := poImp (po_some h) fun σ H Q ⟨env, M, q, E, H0, so, S, h, k, kx⟩ =>
  goE so S h kx fun x dx H1 H' M1 e1 so1 S1 rx ⟨i, ei, w⟩ kx1 => by subst ei; exact ⟨i, rx.inv_int, k _ H1 H' M1 e1 S1 w⟩
theorem goO {K : PySem.W.Frag} {de : DO} {σ : L2.St} {H H0 : Hp} {env : EnvD} {M : Mem} {q : Option Int → Mem → Prop} {E : XD} {Q : Option Int → Hp → Prop} (so : SlotOk K H0 σ env) (S : SD K H0 H M) (h : de env M q E) (kx : KX K H0 E fun c d => W c d σ)
    (k : ∀ b H0' H' M', Ext H0 H0' → SlotOk K H0' σ env → SD K H0' H' M' → q b M' → (KX K H0' E fun c d => W c d σ) → Q b H') : liftO K W de σ H Q :=
  ⟨env, M, q, E, H0, so, S, h, fun b H0' H' M' e S' z => k b H0' H' M' e (so.mono e) S' z (kx.mono e), kx⟩
abbrev RDS := D → Option Int → Option Int → Mem → QD → Prop
def SlD (X : Cx) (rd : RDS) : Prop := ∃ r, SlR X r ∧ ∀ H0 H M x dx lo hi q Q, SD X.K H0 H M → Dn X.K H0 x dx → rd dx lo hi M q → KQ X.K H0 q Q → r x lo hi H Q
theorem SlD.or {a b : RDS} (h : SlD X a) (h' : SlD X b) : SlD X (fun x l u M q => a x l u M q ∨ b x l u M q) := by
  obtain ⟨r, o, z⟩ := h
  obtain ⟨r', o', z'⟩ := h'
  exact ⟨_, o.or o', fun H0 H M x dx l u q Q S hx w k => w.elim (fun w => .inl (z H0 H M x dx l u q Q S hx w k)) fun w => .inr (z' H0 H M x dx l u q Q S hx w k)⟩
theorem SlD.imp {a b : RDS} (h : SlD X a) (i : ∀ x l u M q, b x l u M q → a x l u M q) : SlD X b := by
  obtain ⟨r, o, z⟩ := h
  exact ⟨r, o, fun H0 H M x dx l u q Q S hx w k => z H0 H M x dx l u q Q S hx (i _ _ _ _ _ w) k⟩
@[reducible] def dSl (rd : RDS) (de : DE) (dl du : DO) : DE := fun env M q E => de env M (fun x M1 => dl env M1 (fun l M2 => du env M2 (fun u M3 => rd x l u M3 q) E) E) E
theorem pd_slice {rd : RDS} {e : Expr} {lo hi : Option Expr} {de : DE} {dl du : DO} {p2 pos : Pos} (hr : SlD X rd) (he : PD X W e de) (hl : OD X W lo dl) (hu : OD X W hi du) : PD X W (.Subscript e (.Slice lo hi none p2) pos) (dSl rd de dl du) := by
  obtain ⟨r, o, z⟩ := hr
  exact peImp (pe_slice o he hl hu) fun σ H Q ⟨env, M, q, E, H0, so, S, h, k, kx⟩ => goE so S h kx fun x dx H1 H' M1 e1 so1 S1 rx h1 kx1 => goO so1 S1 h1 kx1 fun l H2 H2' M2 e2 so2 S2 h2 kx2 => goO so2 S2 h2 kx2 fun u H3 H3' M3 e3 so3 S3 h3 kx3 =>
    z H3 H3' M3 x dx l u q Q S3 (rx.mono (e2.trans e3)) h3 (k.mono ((e1.trans e2).trans e3))
def cutD {α : Type} (xs : List α) (lo hi : Option Int) : List α := (xs.drop (HT.sIx xs.length 0 lo)).take (HT.sIx xs.length xs.length hi - HT.sIx xs.length 0 lo)
theorem cut_dn {K : PySem.W.Frag} {H : Hp} {vs : List V} {ds : List D} {lo hi : Option Int} (r : DnL K H vs ds) : DnL K H (cutV vs lo hi) (cutD ds lo hi) := by
  unfold cutV cutD
  rw [r.length]
  exact (r.drop _).take _
def rdSlL : RDS := fun x lo hi M q => ∃ xs, lsqOf M x = some xs ∧ q (.lst (cutD xs lo hi)) M
def rdSlT : RDS := fun x lo hi M q => ∃ xs, x = .tup xs ∧ q (.tup (cutD xs lo hi)) M
def rdSlS : RDS := fun x lo hi M q => ∃ z, x = .str z ∧ z.length ≤ sizeLine ∧ q (.str (cutS z lo hi)) M
def rdSl : RDS := fun x lo hi M q => match x with
  | .str z => z.length ≤ sizeLine ∧ q (.str (cutS z lo hi)) M
  | .tup xs => q (.tup (cutD xs lo hi)) M
  | x => ∃ xs, lsqOf M x = some xs ∧ q (.lst (cutD xs lo hi)) M
theorem sld_l : SlD X rdSlL := ⟨_, sl_list, fun H0 H M x dx lo hi q Q S hx w k => by
  obtain ⟨xs, e, w⟩ := w
  obtain ⟨a, vs, rfl, hs, r⟩ := S.lsq hx e
  exact ⟨a, vs, rfl, hs, k.newL S (cut_dn r) w⟩⟩
theorem whole_cut {α : Type} {xs : List α} {lo hi : Option Int} (h : HT.sIx xs.length 0 lo = 0 ∧ HT.sIx xs.length xs.length hi = xs.length) : cutD xs lo hi = xs := by
  unfold cutD
  rw [h.1, h.2]
  simp
theorem sld_t : SlD X rdSlT := ⟨_, sl_tupA, fun H0 H M x dx lo hi q Q S hx w k => by
  obtain ⟨xs, rfl, w⟩ := w
  cases hx with
  | tup h r =>
    refine ⟨_, _, rfl, S.ex.sqT h, fun c => ?_, fun _ => k.newT S (cut_dn r) w⟩
    rw [r.length] at c
    rw [whole_cut c] at w
    exact k.here S (.tup h r) w⟩
theorem sld_s : SlD X rdSlS := ⟨_, sl_str, fun H0 H M x dx lo hi q Q S hx w k => by
  obtain ⟨z, rfl, z1, w⟩ := w
  cases hx
  exact ⟨_, rfl, z1, k.here S (.str _) w⟩⟩
theorem sld : SlD X rdSl := (sld_l.or (sld_t.or sld_s)).imp fun x l u M q h => by
  cases x <;> first
    | exact .inr (.inr ⟨_, rfl, h.1, h.2⟩)
    | exact .inr (.inl ⟨_, rfl, h⟩)
    | exact .inl h
end
end DL
set_option maxRecDepth 100000
set_option maxHeartbeats 4000000
namespace DL
open PySem PySem.Spec PyProof.Rows L2
structure ItOk (K : PySem.W.Frag) (H0 : Hp) (J : It) (items : List D) (ok : Mem → Prop) : Prop where
  go : ∀ H0' H M i d, Ext H0 H0' → SD K H0' H M → ok M → items[i]? = some d → J.go i H ∧ ∀ x H', J.yld i H x H' → ∃ H2, Ext H0' H2 ∧ SD K H2 H' M ∧ Dn K H2 x d
  stop : ∀ H0' H M i, Ext H0 H0' → SD K H0' H M → ok M → items.length ≤ i → J.stop i H
abbrev DI := EnvD → Mem → (List D → (Mem → Prop) → Mem → Prop) → XD → Prop
def liftI (K : PySem.W.Frag) (W : WX) (di : DI) : TI := fun σ H R => ∃ env M q E H0, SlotOk K H0 σ env ∧ SD K H0 H M ∧ di env M q E ∧
  (∀ J items ok H0' H' M', Ext H0 H0' → SD K H0' H' M' → ItOk K H0' J items ok → q items ok M' → R J H') ∧ KX K H0 E fun c d => W c d σ
def ID (X : Cx) (W : WX) (tg it : Expr) (di : DI) : Prop := PI X tg it (liftI X.K W di)
theorem piImp {X : Cx} {tg e : Expr} {t t' : TI} (h : PI X tg e t) (i : ∀ σ H Q, t' σ H Q → t σ H Q) : PI X tg e t' := ⟨fun pins s σ H Q I q => h.run pins s σ H Q I (i σ H Q q)⟩
theorem goI {K : PySem.W.Frag} {W : WX} {di : DI} {σ : L2.St} {H H0 : Hp} {env : EnvD} {M : Mem} {q : List D → (Mem → Prop) → Mem → Prop} {E : XD} {R : It → Hp → Prop} (so : SlotOk K H0 σ env) (S : SD K H0 H M) (h : di env M q E) (kx : KX K H0 E fun c d => W c d σ)
    (k : ∀ J items ok H0' H' M', Ext H0 H0' → SlotOk K H0' σ env → SD K H0' H' M' → ItOk K H0' J items ok → q items ok M' → (KX K H0' E fun c d => W c d σ) → R J H') : liftI K W di σ H R :=
  ⟨env, M, q, E, H0, so, S, h, fun J items ok H0' H' M' e S' z w => k J items ok H0' H' M' e (so.mono e) S' z w (kx.mono e), kx⟩
/-- a list or a tuple -/
def iSeq (K : PySem.W.Frag) (tl : TE) : TI := fun σ H R => tl σ H fun x H1 => ∃ a, x = .ref a ∧ (((∃ xs, SqL K H1 a xs) ∧ R (Itl K a) H1) ∨ ((∃ xs, SqT K H1 a xs) ∧ R (Itt K a) H1))
section
variable {X : Cx} {W : WX} {tg : Expr}
theorem pi_seq {l : Expr} {tl : TE} (hl : PE X l tl) : PI X tg l (iSeq X.K tl) := by
  constructor
  intro pins s σ H R I h
  refine wpAny_mono (hl.run pins s σ H _ I h) (fun v s1 hh => ?_) fun _ _ z => z
  obtain ⟨x, H1, J1, rx, a, ex, cs⟩ := hh
  subst ex
  obtain rfl : v = Value.ref a := rx
  have fp : ∀ o : Obj, ∀ b ∈ [s1.heap.objs.size], FpOk X pins H1 b := fun o b hb => by
    obtain rfl : b = s1.heap.objs.size := by simpa using hb
    exact J1.fpOk (Nat.le_refl _) (J1.hok.fresh (Nat.le_refl _))
  rcases cs with ⟨⟨xs, hq⟩, q⟩ | ⟨⟨xs, hq⟩, q⟩
  · obtain ⟨its, _, pl, _⟩ := J1.list hq
    refine wpAny_pyIter_list pl.isList ⟨_, [_], _, _, H1, rfl, J1.kept (t' := s1.toks) (fun b o e => Heap.get?_push_of_some _ e), turn_list a _, ⟨_, Heap.get?_push_size _ rfl, rfl, rfl⟩, ?_, q⟩
    exact fp default
  · obtain ⟨its, _, pl, _⟩ := J1.tuple hq
    refine wpAny_pyIter_tuple (show s1.heap.IsTuple a its.toArray from pl) ⟨_, [_], _, _, H1, rfl, J1.kept (t' := s1.toks) (fun b o e => Heap.get?_push_of_some _ e), turn_tuple a _, ⟨_, Heap.get?_push_size _ rfl, rfl, rfl⟩, ?_, q⟩
    exact fp default
@[reducible] def dIter (de : DE) : DI := fun env M q E => de env M (fun d M1 => ∃ xs, seqOf M1 d = some xs ∧ q xs (fun M' => seqOf M' d = some xs) M1) E
theorem itl_ok {K : PySem.W.Frag} {H0 : Hp} {a : Addr} {d : D} {xs : List D} (hd : Dn K H0 (.ref a) d) (hl : ∀ H0' H M, Ext H0 H0' → SD K H0' H M → seqOf M d = some xs → ∃ vs, SqL K H a vs ∧ DnL K H0' vs xs) : ItOk K H0 (Itl K a) xs (fun M => seqOf M d = some xs) where
  go := fun H0' H M i y e S ok hi => by
    obtain ⟨vs, hs, r⟩ := hl H0' H M e S ok
    obtain ⟨v, hv, rv⟩ := r.get hi
    exact ⟨⟨vs, v, hs, hv⟩, fun x H' ⟨e1, e2⟩ => by
      subst e1
      have := e2 vs hs
      rw [hv] at this
      cases this
      exact ⟨H0', Ext.refl _, S, rv⟩⟩
  stop := fun H0' H M i e S ok hi => by
    obtain ⟨vs, hs, r⟩ := hl H0' H M e S ok
    exact ⟨vs, hs, by rw [r.length]; exact hi⟩
theorem itt_ok {K : PySem.W.Frag} {H0 : Hp} {a : Addr} {xs : List D} {vs : List V} (h : SqT K H0 a vs) (r : DnL K H0 vs xs) (ok : Mem → Prop) : ItOk K H0 (Itt K a) xs ok where
  go := fun H0' H M i y e S _ hi => by
    obtain ⟨v, hv, rv⟩ := r.get hi
    have hs : SqT K H a vs := (e.trans S.ex).sqT h
    exact ⟨⟨vs, v, hs, hv⟩, fun x H' ⟨e1, e2⟩ => by
      subst e1
      have := e2 vs hs
      rw [hv] at this
      cases this
      exact ⟨H0', Ext.refl _, S, rv.mono e⟩⟩
  stop := fun H0' H M i e S _ hi => ⟨vs, (e.trans S.ex).sqT h, by rw [r.length]; exact hi⟩
theorem id_seq {e : Expr} {de : DE} (h : PD X W e de) : ID X W tg e (dIter de) := piImp (pi_seq h) fun σ H R ⟨env, M, q, E, H0, so, S, h, k, kx⟩ =>
  goE so S h kx fun x dx H1 H' M1 e1 so1 S1 rx ⟨xs, ex, w⟩ kx1 => by
    have fin : ∀ J ok, ItOk X.K H1 J xs ok → q xs ok M1 → R J H' := fun J ok z w => k J xs ok H1 H' M1 e1 S1 z w
    cases rx with
    | lst hh r =>
      cases ex
      exact ⟨_, rfl, .inl ⟨⟨_, SqL.of (S1.ex _ _ hh)⟩, fin _ _ (itl_ok (.lst hh r) fun H0' H M e S _ => ⟨_, SqL.of (S.ex _ _ (e _ _ hh)), r.mono e⟩) w⟩⟩
    | lsf hh r =>
      cases ex
      exact ⟨_, rfl, .inl ⟨⟨_, S1.ex.sqL hh⟩, fin _ _ (itl_ok (.lsf hh r) fun H0' H M e S _ => ⟨_, (e.trans S.ex).sqL hh, r.mono e⟩) w⟩⟩
    | tup hh r =>
      cases ex
      exact ⟨_, rfl, .inr ⟨⟨_, S1.ex.sqT hh⟩, fin _ _ (itt_ok hh r _) w⟩⟩
    | cel c =>
      obtain ⟨_, vs, e2, r⟩ := S1.cell c xs (celL_eq ex)
      exact ⟨_, rfl, .inl ⟨⟨vs, SqL.of e2⟩, fin _ _ (itl_ok (.cel c) fun H0' H M e S ok => by
        obtain ⟨_, ws, e3, r3⟩ := S.cell c xs (celL_eq ok)
        exact ⟨ws, SqL.of e3, r3⟩) w⟩⟩
    | _ => cases ex
/-- range(n), range(a, b) -/
def rngD (lo : Int) (n : Nat) : List D := (List.range n).map fun i => D.int (lo + (i : Nat))
theorem itr_ok {K : PySem.W.Frag} {H0 : Hp} {lo : Int} {n : Nat} (ok : Mem → Prop) : ItOk K H0 (Itr lo n) (rngD lo n) ok where
  go := fun H0' H M i y e S _ hi => by
    unfold rngD at hi
    rw [List.getElem?_map] at hi
    obtain ⟨j, hj, rfl⟩ := omap hi
    have hj2 := List.getElem?_eq_some_iff.mp hj
    obtain ⟨h1, h2⟩ := hj2
    rw [List.length_range] at h1
    rw [List.getElem_range] at h2
    subst h2
    exact ⟨h1, fun x H' ⟨e1, e2⟩ => by subst e1 e2; exact ⟨H0', Ext.refl _, S, .int _⟩⟩
  stop := fun H0' H M i e S _ hi => by
    unfold rngD at hi
    rw [List.length_map, List.length_range] at hi
    exact hi
@[reducible] def dRng1 (da : DA) : DI := fun env M q E => da env M (fun ds M1 => ∃ j : Int, ds = [.int j] ∧ (-(2 ^ 62) ≤ j ∧ j < 2 ^ 62) ∧ q (rngD 0 j.toNat) (fun _ => True) M1) E
theorem id_rng1 {a : Expr} {da : DA} {p pos : Pos} (hg : Gl X "range") (hm : X.mg "range" = none) (ha : AD X W [a] da) (hs : starEach [a] X.env = [(false, eval a X.env)] := by rfl) : ID X W tg (.Call (.Name "range" p) [a] [] pos) (dRng1 da) :=
  piImp (pi_range1 hg hm ha hs) fun σ H R ⟨env, M, q, E, H0, so, S, h, k, kx⟩ => goA so S h kx fun xs ds H1 H' M1 e1 so1 S1 rs ⟨j, ej, b, w⟩ kx1 => by
    subst ej
    obtain ⟨v, rfl, rv⟩ := dnl1 rs
    cases rv
    exact ⟨j, rfl, b.1, b.2, k _ _ _ H1 H' M1 e1 S1 (itr_ok _) w⟩
/-- a text, sign by sign -/
def strD (x : Str) : List D := x.cps.toList.map fun c => D.str ⟨#[c]⟩
theorem its_ok {K : PySem.W.Frag} {H0 : Hp} {x : Str} (ok : Mem → Prop) : ItOk K H0 (Its x) (strD x) ok where
  go := fun H0' H M i y e S _ hi => by
    unfold strD at hi
    rw [List.getElem?_map] at hi
    obtain ⟨c, hc, rfl⟩ := omap hi
    have hc' : x.cps[i]? = some c := by simpa using hc
    have hlt : i < x.cps.size := (Array.getElem?_eq_some_iff.mp hc').1
    exact ⟨hlt, fun v H' ⟨e1, c', e2, e3⟩ => by
      subst e1
      rw [hc'] at e2
      cases e2
      subst e3
      exact ⟨H0', Ext.refl _, S, .str _⟩⟩
  stop := fun H0' H M i e S _ hi => by
    unfold strD at hi
    rw [List.length_map] at hi
    show x.cps.size ≤ i
    simpa using hi
@[reducible] def dIterS (de : DE) : DI := fun env M q E => de env M (fun d M1 => ∃ x, d = .str x ∧ q (strD x) (fun _ => True) M1) E
theorem id_str {e : Expr} {de : DE} (h : PD X W e de) : ID X W tg e (dIterS de) := piImp (pi_str h) fun σ H R ⟨env, M, q, E, H0, so, S, h, k, kx⟩ =>
  goE so S h kx fun x dx H1 H' M1 e1 so1 S1 rx ⟨z, ez, w⟩ kx1 => by subst ez; exact ⟨z, rx.inv_str, k _ _ _ H1 H' M1 e1 S1 (its_ok _) w⟩
end
/-- the memory without a cell -/
def mdel (M : Mem) (c : Addr) : Mem := fun b => if b = c then none else M b
theorem mdel_mset {M : Mem} {c : Addr} {xs : Cel} (h : M c = none) : mdel (mset M c xs) c = M := by
  funext b
  unfold mdel
  by_cases e : b = c
  · subst e; rw [if_pos rfl, h]
  · rw [if_neg e, mset_ne e]
/-- exceptions at the slots as they are then -/
def KXE (K : PySem.W.Frag) (H0 : Hp) (ex : EnvD → XD) (W : WX) : Prop := ∀ H1 σ' env', Ext H0 H1 → SlotOk K H1 σ' env' → KX K H1 (ex env') fun c d => W c d σ'
theorem KXE.mono {K : PySem.W.Frag} {H0 H1 : Hp} {ex : EnvD → XD} {W : WX} (h : KXE K H0 ex W) (e : Ext H0 H1) : KXE K H1 ex W := fun H2 σ env e2 => h H2 σ env (e.trans e2)
theorem KXE.at {K : PySem.W.Frag} {H0 : Hp} {ex : EnvD → XD} {W : WX} (h : KXE K H0 ex W) {σ : L2.St} {env : EnvD} (so : SlotOk K H0 σ env) : KX K H0 (ex env) fun c d => W c d σ := h H0 σ env (Ext.refl H0) so
abbrev GD := D → EnvD → Mem → (EnvD → Mem → Prop) → (EnvD → XD) → Prop
abbrev GDs := List D → EnvD → Mem → (EnvD → Mem → Prop) → (EnvD → XD) → Prop
def KN (K : PySem.W.Frag) (H0 : Hp) (q : EnvD → Mem → Prop) (Q : L2.St → Hp → Prop) : Prop := ∀ σ' env' H0' H' M', Ext H0 H0' → SlotOk K H0' σ' env' → SD K H0' H' M' → q env' M' → Q σ' H'
theorem KN.mono {K : PySem.W.Frag} {H0 H1 : Hp} {q : EnvD → Mem → Prop} {Q : L2.St → Hp → Prop} (h : KN K H0 q Q) (e : Ext H0 H1) : KN K H1 q Q := fun σ env _ _ _ e2 => h σ env _ _ _ (e.trans e2)
def liftG (K : PySem.W.Frag) (W : WX) (gd : GD) : TG := fun v σ H Q => ∃ d env M q ex H0, Dn K H0 v d ∧ SlotOk K H0 σ env ∧ SD K H0 H M ∧ gd d env M q ex ∧ KN K H0 q Q ∧ KXE K H0 ex W
def liftGs (K : PySem.W.Frag) (W : WX) (gd : GDs) : TGs := fun vs σ H Q => ∃ ds env M q ex H0, DnL K H0 vs ds ∧ SlotOk K H0 σ env ∧ SD K H0 H M ∧ gd ds env M q ex ∧ KN K H0 q Q ∧ KXE K H0 ex W
def TgD (X : Cx) (W : WX) (e : Expr) (gd : GD) : Prop := PG X e (liftG X.K W gd)
def TgsD (X : Cx) (W : WX) (es : List Expr) (gd : GDs) : Prop := PGs X es (liftGs X.K W gd)
theorem pgImp {X : Cx} {e : Expr} {t t' : TG} (h : PG X e t) (i : ∀ v σ H Q, t' v σ H Q → t v σ H Q) : PG X e t' := ⟨fun pins s σ H v u Q I r q => h.run pins s σ H v u Q I r (i v σ H Q q)⟩
theorem pgsImp {X : Cx} {e : List Expr} {t t' : TGs} (h : PGs X e t) (i : ∀ v σ H Q, t' v σ H Q → t v σ H Q) : PGs X e t' := ⟨fun pins s σ H v u Q I r q => h.run pins s σ H v u Q I r (i v σ H Q q)⟩
section
variable {X : Cx} {W : WX}
@[reducible] def gdName (i : Nat) : GD := fun d env M q _ => q (env.set i (some d)) M
theorem gd_name {i : Nat} {x : Str} {pos : Pos} (hN : X.N.Nodup) (hi : X.N[i]? = some x := by rfl) (hx : Loc X.env.scope x := by first | exact Or.inl rfl | exact Or.inr rfl) (hf : X.fn x = true ∨ X.env.scope.names.lookup x = some .local := by first | exact .inl rfl | exact .inr rfl) :
    TgD X W (.Name x pos) (gdName i) := pgImp (pg_name hN hi hx hf) fun v σ H Q ⟨d, env, M, q, ex, H0, r, so, S, h, k, kx⟩ => k _ _ H0 H M (Ext.refl H0) (so.set i r) S h
@[reducible] def gdNil : GDs := fun ds env M q _ => ds = [] ∧ q env M
@[reducible] def gdCons (g : GD) (u : GDs) : GDs := fun ds env M q ex => ∃ d r, ds = d :: r ∧ g d env M (fun env' M' => u r env' M' q ex) ex
theorem gds_nil : TgsD X W [] gdNil := pgsImp pgs_nil fun v σ H Q ⟨ds, env, M, q, ex, H0, r, so, S, ⟨e, h⟩, k, kx⟩ => by
  subst e
  cases r
  exact ⟨rfl, k _ _ H0 H M (Ext.refl H0) so S h⟩
theorem gds_cons {e : Expr} {es : List Expr} {g : GD} {u : GDs} (h1 : TgD X W e g) (h2 : TgsD X W es u) (hs : (assignEach (e :: es) X.env).map (·.2) = assign e X.env :: (assignEach es X.env).map (·.2) := by rfl) : TgsD X W (e :: es) (gdCons g u) :=
  pgsImp (pgs_cons h1 h2 hs) fun v σ H Q ⟨ds, env, M, q, ex, H0, r, so, S, ⟨d, dr, e, h⟩, k, kx⟩ => by
    subst e
    cases r with
    | cons r rr => exact ⟨_, _, rfl, d, env, M, _, ex, H0, r, so, S, h, fun σ' env' H1 H' M' e1 so1 S1 w => ⟨dr, env', M', q, ex, H1, rr.mono e1, so1, S1, w, k.mono e1, kx.mono e1⟩, kx⟩
@[reducible] def gdTup (n : Nat) (u : GDs) : GD := fun d env M q ex => ∃ xs, d = .tup xs ∧ xs.length = n ∧ u xs env M q ex
@[reducible] def gdLst (n : Nat) (u : GDs) : GD := fun d env M q ex => ∃ xs, lsqOf M d = some xs ∧ xs.length = n ∧ u xs env M q ex
theorem gd_tup {es : List Expr} {k : Nat} {u : GDs} {n : Nat} {pos : Pos} (hc : X.calm = true) (h : TgsD X W es u) (hn : (assignEach es X.env).length = n := by rfl) (hst : (assignEach es X.env).findIdx? (·.1) = none := by rfl) : TgD X W (.Tuple es k pos) (gdTup n u) :=
  pgImp (pg_tup hc h hn hst) fun v σ H Q ⟨d, env, M, q, ex, H0, r, so, S, ⟨xs, e, hl, h⟩, k, kx⟩ => by
    subst e
    cases r with
    | tup hh rr => exact ⟨_, _, rfl, S.ex.sqT hh, by rw [rr.length]; exact hl, xs, env, M, q, ex, H0, rr, so, S, h, k, kx⟩
theorem gd_lst {es : List Expr} {k : Nat} {u : GDs} {n : Nat} {pos : Pos} (hc : X.calm = true) (h : TgsD X W es u) (hn : (assignEach es X.env).length = n := by rfl) (hst : (assignEach es X.env).findIdx? (·.1) = none := by rfl) : TgD X W (.Tuple es k pos) (gdLst n u) :=
  pgImp (pg_unl hc h hn hst) fun v σ H Q ⟨d, env, M, q, ex, H0, r, so, S, ⟨xs, e, hl, h⟩, k, kx⟩ => by
    obtain ⟨a, vs, rfl, hs, rr⟩ := S.lsq r e
    exact ⟨a, vs, rfl, hs, by rw [rr.length]; exact hl, xs, env, M, q, ex, H0, rr, so, S, h, k, kx⟩
/-- cell[i] = v -/
@[reducible] def gdSub (do_ di : DE) : GD := fun d env M q ex => do_ env M (fun o M1 => di env M1 (fun i M2 => ∃ c xs k j, o = .cel c ∧ i = .int k ∧ M2 c = some (.ls xs) ∧ ixN xs.length k = some j ∧ q env (mset M2 c (.ls (xs.set j d)))) (ex env)) (ex env)
theorem gd_sub {o i : Expr} {do_ di : DE} {pos : Pos} (ho : PD X W o do_) (hi : PD X W i di)
    (ha : ∀ v, assign (.Subscript o i pos) X.env v = (do let ov ← holding [v] (eval o X.env); let iv ← holding [v, ov] (eval i X.env); standAt pos; holding [v, ov, iv] (setItem ov iv v); release [v, ov, iv] []) := by intro _; rfl) : TgD X W (.Subscript o i pos) (gdSub do_ di) :=
  pgImp (pg_sub ho hi set_list ha) fun v σ H Q ⟨d, env, M, q, ex, H0, r, so, S, h, k, kx⟩ =>
    goE so S h (kx.at so) fun x dx H1 H' M1 e1 so1 S1 rx h1 kx1 => goE so1 S1 h1 kx1 fun y dy H2 H'' M2 e2 so2 S2 ry ⟨c, xs, kk, j, ec, ei, em, ej, w⟩ kx2 => by
      subst ec ei
      cases rx
      cases ry
      obtain ⟨n0, vs, hv, rs⟩ := S2.cell c xs em
      refine ⟨c, vs, kk, j, rfl, rfl, hv, by rw [rs.length]; exact ej, ?_⟩
      exact k _ _ H2 _ _ (e1.trans e2) so2 (S2.write em (rs.set j (r.mono (e1.trans e2)))) w
end
structure EndD where
  nx : EnvD → Mem → Prop
  rt : QD
  bk : EnvD → Mem → Prop := fun _ _ => False
  ct : EnvD → Mem → Prop := fun _ _ => False
  ex : EnvD → XD := fun _ _ _ _ _ => False
abbrev DS := EndD → EnvD → Mem → Prop
structure KE (K : PySem.W.Frag) (H0 : Hp) (W : WX) (d : EndD) (D : Ends) : Prop where
  nx : KN K H0 d.nx D.nx
  rt : KQ K H0 d.rt D.rt
  bk : KN K H0 d.bk D.bk
  ct : KN K H0 d.ct D.ct
  ex : KXE K H0 d.ex W
theorem KE.mono {K : PySem.W.Frag} {H0 H1 : Hp} {W : WX} {d : EndD} {D : Ends} (h : KE K H0 W d D) (e : Ext H0 H1) : KE K H1 W d D := ⟨h.nx.mono e, h.rt.mono e, h.bk.mono e, h.ct.mono e, h.ex.mono e⟩
def liftS (K : PySem.W.Frag) (W : WX) (ds : DS) : TS := fun D σ H => ∃ env M d H0, SlotOk K H0 σ env ∧ SD K H0 H M ∧ ds d env M ∧ KE K H0 W d D
def SDt (X : Cx) (W : WX) (st : Stmt) (ds : DS) : Prop := PS X st (liftS X.K W ds)
def BD (X : Cx) (W : WX) (sts : List Stmt) (ds : DS) : Prop := PSs X sts (liftS X.K W ds)
section
variable {X : Cx} {W : WX}
@[reducible] def dNext : DS := fun d env M => d.nx env M
@[reducible] def dSeq (a b : DS) : DS := fun d env M => a { d with nx := fun env' M' => b d env' M' } env M
theorem bd_nil : BD X W [] dNext := pssImp pss_nil fun D σ H ⟨env, M, d, H0, so, S, h, k⟩ => k.nx _ _ H0 H M (Ext.refl H0) so S h
theorem bd_cons {st : Stmt} {r : List Stmt} {a b : DS} (h1 : SDt X W st a) (h2 : BD X W r b) : BD X W (st :: r) (dSeq a b) := pssImp (pss_cons h1 h2) fun D σ H ⟨env, M, d, H0, so, S, h, k⟩ =>
  ⟨env, M, _, H0, so, S, h, ⟨fun σ' env' H1 H' M' e so' S' w => ⟨env', M', d, H1, so', S', w, k.mono e⟩, k.rt, k.bk, k.ct, k.ex⟩⟩
theorem bd_one {st : Stmt} {a : DS} (h1 : SDt X W st a) : BD X W [st] a := pss_one h1
@[reducible] def dExp (de : DE) : DS := fun d env M => de env M (fun _ M' => d.nx env M') (d.ex env)
theorem sd_expr {e : Expr} {de : DE} {pos : Pos} (h : PD X W e de) (hs : swapsWith e none pos.line X.env = pure false := by rfl) : SDt X W (.Expr e pos) (dExp de) := psImp (ps_expr h hs) fun D σ H ⟨env, M, d, H0, so, S, h, k⟩ =>
  goE so S h (k.ex.at so) fun x dx H1 H' M1 e1 so1 S1 rx w kx1 => k.nx _ _ H1 H' M1 e1 so1 S1 w
@[reducible] def dRet (de : DE) : DS := fun d env M => de env M d.rt (d.ex env)
theorem sd_ret {e : Expr} {de : DE} {pos : Pos} (h : PD X W e de) : SDt X W (.Return (some e) pos) (dRet de) := psImp (ps_ret h) fun D σ H ⟨env, M, d, H0, so, S, h, k⟩ =>
  goE so S h (k.ex.at so) fun x dx H1 H' M1 e1 so1 S1 rx w kx1 => k.rt _ _ H1 H' M1 e1 S1 rx w
/-- a list that changed till now is handed back: it changes no more -/
@[reducible] def dRetF (de : DE) : DS := fun d env M => de env M (fun x M1 => ∃ c xs, x = .cel c ∧ M1 c = some (.ls xs) ∧ d.rt (.lst xs) (mdel M1 c)) (d.ex env)
theorem SD.freeze {K : PySem.W.Frag} {H0 H : Hp} {M : Mem} {c : Addr} {xs : List D} (S : SD K H0 H M) (h : M c = some (.ls xs)) : ∃ vs, H c = some (.lst vs) ∧ H0 c = none ∧ SD K (upd H0 c (.lst vs)) H (mdel M c) ∧ Dn K (upd H0 c (.lst vs)) (.ref c) (.lst xs) := by
  obtain ⟨n0, vs, e1, r⟩ := S.cell c xs h
  refine ⟨vs, e1, n0, ⟨fun a o q => ?_, fun b ys q => ?_⟩, .lst upd_same (r.mono (Ext.add n0))⟩
  · by_cases z : a = c
    · subst z; rw [upd_same] at q; cases q; exact e1
    · rw [upd_ne z] at q; exact S.ex a o q
  · unfold mdel at q
    by_cases z : b = c
    · rw [if_pos z] at q; cases q
    · rw [if_neg z] at q
      obtain ⟨n1, ok⟩ := S.any b ys q
      exact ⟨by rw [upd_ne z]; exact n1, ok.same (Ext.add n0) rfl⟩
theorem sd_retF {e : Expr} {de : DE} {pos : Pos} (h : PD X W e de) : SDt X W (.Return (some e) pos) (dRetF de) := psImp (ps_ret h) fun D σ H ⟨env, M, d, H0, so, S, h, k⟩ =>
  goE so S h (k.ex.at so) fun x dx H1 H' M1 e1 so1 S1 rx ⟨c, xs, ec, em, w⟩ kx1 => by
    subst ec
    cases rx
    obtain ⟨vs, _, n0, S2, r2⟩ := S1.freeze em
    exact k.rt _ _ _ H' _ (e1.trans (Ext.add n0)) S2 r2 w
@[reducible] def dIfS (t : DT) (a b : DS) : DS := fun d env M => t env M (fun c M1 => if c = true then a d env M1 else b d env M1) (d.ex env)
theorem sd_if {c : Expr} {a b : List Stmt} {dt : DT} {da db : DS} {pos : Pos} (hc : TD X W c dt) (ha : BD X W a da) (hb : BD X W b db) : SDt X W (.If c a b pos) (dIfS dt da db) := psImp (ps_if hc ha hb) fun D σ H ⟨env, M, d, H0, so, S, h, k⟩ =>
  goT so S h (k.ex.at so) fun c H1 H' M1 e1 so1 S1 w kx1 => by
    cases c with
    | true => exact iteT ⟨env, M1, d, H1, so1, S1, w, k.mono e1⟩
    | false => exact iteF ⟨env, M1, d, H1, so1, S1, w, k.mono e1⟩
@[reducible] def dAsg (de : DE) (g : GD) : DS := fun d env M => de env M (fun x M1 => g x env M1 d.nx d.ex) (d.ex env)
theorem sd_asg {tg e : Expr} {de : DE} {g : GD} {pos : Pos} (he : PD X W e de) (hg : TgD X W tg g) (hs : swapsWithSole [tg] e pos.line X.env = pure false := by rfl) (hw : swappedStores [tg] e X.env = pure none := by rfl)
    (h1 : (assignEach [tg] X.env).map (·.2) = [assign tg X.env] := by rfl) : SDt X W (.Assign [tg] e pos) (dAsg de g) := psImp (ps_asg he hg hs hw h1) fun D σ H ⟨env, M, d, H0, so, S, h, k⟩ =>
  goE so S h (k.ex.at so) fun x dx H1 H' M1 e1 so1 S1 rx w kx1 => ⟨dx, env, M1, d.nx, d.ex, H1, rx, so1, S1, w, k.nx.mono e1, k.ex.mono e1⟩
@[reducible] def dSet (i : Nat) (de : DE) : DS := fun d env M => de env M (fun x M1 => d.nx (env.set i (some x)) M1) (d.ex env)
theorem sd_set (i : Nat) {x : Str} {e : Expr} {de : DE} {pos pos' : Pos} (hN : X.N.Nodup) (he : PD X W e de) (hi : X.N[i]? = some x := by rfl) (hx : Loc X.env.scope x := by first | exact Or.inl rfl | exact Or.inr rfl) (hs : swapsWith e (some (.Name x pos')) pos.line X.env = pure false := by rfl)
    (hf : X.fn x = true ∨ X.env.scope.names.lookup x = some .local := by first | exact .inl rfl | exact .inr rfl) : SDt X W (.Assign [.Name x pos'] e pos) (dSet i de) := psImp (ps_set hN hi hx he hs hf) fun D σ H ⟨env, M, d, H0, so, S, h, k⟩ =>
  goE so S h (k.ex.at so) fun x dx H1 H' M1 e1 so1 S1 rx w kx1 => k.nx _ _ H1 H' M1 e1 (so1.set i rx) S1 w
def forW (ok : Mem → Prop) (g : GD) (body : DS) (d : EndD) : List D → EnvD → Mem → Prop
  | [], env, M => ok M ∧ d.nx env M
  | x :: r, env, M => ok M ∧ g x env M (fun env' M' => body { d with nx := forW ok g body d r, ct := forW ok g body d r, bk := d.nx } env' M') d.ex
@[reducible] def dFor (di : DI) (g : GD) (body : DS) : DS := fun d env M => di env M (fun items ok M1 => forW ok g body d items env M1) (d.ex env)
theorem sd_for {tg it : Expr} {body : List Stmt} {di : DI} {g : GD} {db : DS} {pos : Pos} (hp : PassesOwn (model X.prog X.w) X.A X.env X.xe) (hc : X.calm = true) (hi : ID X W tg it di) (hg : TgD X W tg g) (hb : BD X W body db)
    (hs : ∀ x, foldedSetIterable it X.env x = pure x := by intro _; rfl) : SDt X W (.For tg it body [] pos) (dFor di g db) := psImp (ps_for hp hc hi hg hb hs) fun D σ H ⟨env, M, d, H0, so, S, h, k⟩ =>
  goI so S h (k.ex.at so) fun J items ok H1 H' M1 e1 so1 S1 io w kx1 => by
    refine ⟨fun i m σ2 H2 => m = items.length - i ∧ i ≤ items.length ∧ ∃ env2 M2 H3, Ext H1 H3 ∧ SlotOk X.K H3 σ2 env2 ∧ SD X.K H3 H2 M2 ∧ forW ok g db d (items.drop i) env2 M2, ⟨_, rfl, Nat.zero_le _, env, M1, H1, Ext.refl _, so1, S1, w⟩, ?_⟩
    rintro i m σ2 H2 ⟨rfl, hi2, env2, M2, H3, e3, so3, S3, w3⟩
    by_cases hlt : i < items.length
    · have hx : items[i]? = some items[i] := List.getElem?_eq_getElem hlt
      rw [List.drop_eq_getElem_cons hlt] at w3
      obtain ⟨o3, w3⟩ := w3
      obtain ⟨g1, g2⟩ := io.go H3 H2 M2 i _ e3 S3 o3 hx
      refine .inr ⟨g1, fun σ4 H4 => ∃ env4 M4 H5, Ext H1 H5 ∧ SlotOk X.K H5 σ4 env4 ∧ SD X.K H5 H4 M4 ∧ forW ok g db d (items.drop (i + 1)) env4 M4, fun σ4 H4 z => ⟨items.length - (i + 1), by omega, rfl, hlt, z⟩, fun x H4 y => ?_⟩
      obtain ⟨H5, e5, S5, r5⟩ := g2 x H4 y
      refine ⟨_, env2, M2, _, d.ex, H5, r5, so3.mono e5, S5, w3, fun σ6 env6 H6 H6' M6 e6 so6 S6 w6 => ?_, k.ex.mono ((e1.trans e3).trans e5)⟩
      have e16 : Ext H1 H6 := (e3.trans e5).trans e6
      refine ⟨env6, M6, _, H6, so6, S6, w6, ⟨fun σ7 env7 H7 H7' M7 e7 so7 S7 w7 => ⟨env7, M7, H7, e16.trans e7, so7, S7, w7⟩, k.rt.mono (e1.trans e16), k.nx.mono (e1.trans e16), fun σ7 env7 H7 H7' M7 e7 so7 S7 w7 => ⟨env7, M7, H7, e16.trans e7, so7, S7, w7⟩, k.ex.mono (e1.trans e16)⟩⟩
    · have hge : items.length ≤ i := Nat.le_of_not_lt hlt
      rw [List.drop_eq_nil_of_le hge] at w3
      exact .inl ⟨io.stop H3 H2 M2 i e3 S3 w3.1 hge, k.nx _ _ H3 H2 M2 (e1.trans e3) so3 S3 w3.2⟩
end
/-- the slots of the block's own names forgotten -/
def wipeD (env : EnvD) : List Nat → EnvD
  | [] => env
  | i :: r => (wipeD env r).set i none
def noX : XD := fun _ _ _ _ => False
/-- the turns of a comprehension; c the cell that grows -/
def lcW (ok : Mem → Prop) (g : GD) (t : DT) (de : DE) (env : EnvD) (q : QD) (c : Addr) : List D → Mem → Prop
  | [], M => ok M ∧ ∃ xs, M c = some (.ls xs) ∧ q (.lst xs) (mdel M c)
  | x :: r, M => ok M ∧ g x env M (fun env' M' => t env' M' (fun b M2 => if b = true then de env' M2 (fun y M3 => ∃ xs, M3 c = some (.ls xs) ∧ xs.length < sizeLine ∧ lcW ok g t de env q c r (mset M3 c (.ls (xs ++ [y])))) noX else lcW ok g t de env q c r M2) noX) (fun _ => noX)
@[reducible] def dLc (di : DI) (g : GD) (t : DT) (de : DE) (vs : List Nat) : DE := fun env M q E => di env M (fun items ok M1 => ∀ c, M1 c = none → lcW ok g t de (wipeD env vs) q c items (mset M1 c (.ls []))) E
end DL
set_option maxRecDepth 100000
set_option maxHeartbeats 4000000
namespace DL
open PySem PySem.Spec PyProof.Rows L2
theorem wipe_set {σ : L2.St} {i : Nat} {x : Option V} : ∀ {vs : List Nat}, i ∈ vs → wipe (σ.set i x) vs = wipe σ vs
  | [], h => by cases h
  | v :: vs, h => by
    show (wipe (σ.set i x) vs).set v none = (wipe σ vs).set v none
    by_cases hv : i ∈ vs
    · rw [wipe_set hv]
    · have e : i = v := (List.mem_cons.mp h).resolve_right hv
      subst e
      have z : ∀ ws : List Nat, i ∉ ws → wipe (σ.set i x) ws = (wipe σ ws).set i x := fun ws => by
        induction ws with
        | nil => intro _; rfl
        | cons w ws ih =>
          intro hw
          have h1 : i ≠ w := fun q => hw (by rw [q]; exact List.mem_cons_self)
          have h2 : i ∉ ws := fun q => hw (List.mem_cons_of_mem _ q)
          show (wipe (σ.set i x) ws).set w none = ((wipe σ ws).set w none).set i x
          rw [ih h2, List.set_comm _ _ h1]
      rw [z vs hv, List.set_set]
theorem wipe_idem {σ : L2.St} {i : Nat} : ∀ {vs : List Nat}, i ∈ vs → (wipe σ vs).set i none = wipe σ vs
  | [], h => by cases h
  | v :: vs, h => by
    show ((wipe σ vs).set v none).set i none = (wipe σ vs).set v none
    by_cases e : i = v
    · subst e; rw [List.set_set]
    · rw [List.set_comm _ _ (fun q => e q.symm), wipe_idem ((List.mem_cons.mp h).resolve_left e)]
theorem slot_wipe {K : PySem.W.Frag} {H : Hp} {σ : L2.St} {env : EnvD} (so : SlotOk K H σ env) : ∀ vs : List Nat, SlotOk K H (wipe σ vs) (wipeD env vs)
  | [] => so
  | v :: vs => by
    have ih := slot_wipe so vs
    refine ⟨?_, fun i d h => ?_⟩
    · show ((wipe σ vs).set v none).length = ((wipeD env vs).set v none).length
      rw [List.length_set, List.length_set]; exact ih.len
    · have h' : ((wipeD env vs).set v none)[i]? = some (some d) := h
      by_cases e : v = i
      · subst e
        by_cases l : v < (wipeD env vs).length
        · rw [List.getElem?_set_self l] at h'; cases h'
        · rw [List.getElem?_eq_none (by simpa using l)] at h'; cases h'
      · rw [List.getElem?_set_ne e] at h'
        obtain ⟨u, h1, h2⟩ := ih.get i d h'
        refine ⟨u, ?_, h2⟩
        show ((wipe σ vs).set v none)[i]? = _
        rw [List.getElem?_set_ne e]; exact h1
/-- nothing is let out -/
abbrev WF : WX := fun _ _ _ _ => False
theorem kx0 {K : PySem.W.Frag} {H : Hp} {W : XK} : KX K H noX W := fun _ _ _ _ _ _ _ _ _ _ z => z.elim
theorem kxe0 {K : PySem.W.Frag} {H : Hp} {W : WX} : KXE K H (fun _ => noX) W := fun _ _ _ _ _ => kx0
/-- a target whose names are the block's own -/
def liftGw (K : PySem.W.Frag) (gd : GD) (vs : List Nat) : TG := fun v σ H Q => ∃ d env M q H0, Dn K H0 v d ∧ SlotOk K H0 σ env ∧ SD K H0 H M ∧ gd d env M q (fun _ => noX) ∧
  (∀ σ' env' H0' H' M', Ext H0 H0' → SlotOk K H0' σ' env' → SD K H0' H' M' → q env' M' → wipe σ' vs = wipe σ vs → Q σ' H')
def liftGws (K : PySem.W.Frag) (gd : GDs) (vs : List Nat) : TGs := fun xs σ H Q => ∃ ds env M q H0, DnL K H0 xs ds ∧ SlotOk K H0 σ env ∧ SD K H0 H M ∧ gd ds env M q (fun _ => noX) ∧
  (∀ σ' env' H0' H' M', Ext H0 H0' → SlotOk K H0' σ' env' → SD K H0' H' M' → q env' M' → wipe σ' vs = wipe σ vs → Q σ' H')
def TgW (X : Cx) (e : Expr) (gd : GD) (vs : List Nat) : Prop := PG X e (liftGw X.K gd vs)
def TgsW (X : Cx) (e : List Expr) (gd : GDs) (vs : List Nat) : Prop := PGs X e (liftGws X.K gd vs)
section
variable {X : Cx} {vs : List Nat}
theorem gw_name {i : Nat} {x : Str} {pos : Pos} (hN : X.N.Nodup) (hv : i ∈ vs := by decide) (hi : X.N[i]? = some x := by rfl) (hx : Loc X.env.scope x := by first | exact Or.inl rfl | exact Or.inr rfl) (hf : X.fn x = true ∨ X.env.scope.names.lookup x = some .local := by first | exact .inl rfl | exact .inr rfl) :
    TgW X (.Name x pos) (gdName i) vs := pgImp (pg_name hN hi hx hf) fun v σ H Q ⟨d, env, M, q, H0, r, so, S, h, k⟩ => k _ _ H0 H M (Ext.refl H0) (so.set i r) S h (wipe_set hv)
theorem gws_nil : TgsW X [] gdNil vs := pgsImp pgs_nil fun v σ H Q ⟨ds, env, M, q, H0, r, so, S, ⟨e, h⟩, k⟩ => by
  subst e
  cases r
  exact ⟨rfl, k _ _ H0 H M (Ext.refl H0) so S h rfl⟩
theorem gws_cons {e : Expr} {es : List Expr} {g : GD} {u : GDs} (h1 : TgW X e g vs) (h2 : TgsW X es u vs) (hs : (assignEach (e :: es) X.env).map (·.2) = assign e X.env :: (assignEach es X.env).map (·.2) := by rfl) : TgsW X (e :: es) (gdCons g u) vs :=
  pgsImp (pgs_cons h1 h2 hs) fun v σ H Q ⟨ds, env, M, q, H0, r, so, S, ⟨d, dr, e, h⟩, k⟩ => by
    subst e
    cases r with
    | cons r rr => exact ⟨_, _, rfl, d, env, M, _, H0, r, so, S, h, fun σ' env' H1 H' M' e1 so1 S1 w wz => ⟨dr, env', M', q, H1, rr.mono e1, so1, S1, w, fun σ2 env2 H2 H2' M2 e2 so2 S2 w2 wz2 => k σ2 env2 H2 H2' M2 (e1.trans e2) so2 S2 w2 (wz2.trans wz)⟩⟩
theorem gw_tup {es : List Expr} {k : Nat} {u : GDs} {n : Nat} {pos : Pos} (hc : X.calm = true) (h : TgsW X es u vs) (hn : (assignEach es X.env).length = n := by rfl) (hst : (assignEach es X.env).findIdx? (·.1) = none := by rfl) : TgW X (.Tuple es k pos) (gdTup n u) vs :=
  pgImp (pg_tup hc h hn hst) fun v σ H Q ⟨d, env, M, q, H0, r, so, S, ⟨xs, e, hl, h⟩, k⟩ => by
    subst e
    cases r with
    | tup hh rr => exact ⟨_, _, rfl, S.ex.sqT hh, by rw [rr.length]; exact hl, xs, env, M, q, H0, rr, so, S, h, k⟩
end
section
variable {X : Cx} {W : WX}
def TsD (X : Cx) (es : List Expr) (dt : DT) : Prop := PTs X es (liftT X.K WF dt)
@[reducible] def dYes : DT := fun _ M q _ => q true M
theorem ptsImp {es : List Expr} {t t' : TT} (h : PTs X es t) (i : ∀ σ H Q, t' σ H Q → t σ H Q) : PTs X es t' := ⟨fun pins s σ H Q I q => h.run pins s σ H Q I (i σ H Q q)⟩
theorem tsd_nil : TsD X [] dYes := ptsImp pts_nil fun σ H Q ⟨env, M, q, E, H0, so, S, h, k, kx⟩ => k true H0 H M (Ext.refl H0) S h
theorem tsd_one {c : Expr} {t : DT} (h : TD X WF c t) : TsD X [c] t := pts_one h
theorem lift_lc {K : PySem.W.Frag} {di : DI} {g : GD} {t : DT} {de : DE} {vs : List Nat} : ∀ σ H Q, liftE K W (dLc di g t de vs) σ H Q → tLc (liftI K W di) (liftGw K g vs) (liftT K WF t) (liftE K WF de) vs σ H Q := fun σ H Q ⟨env, M, q, E, H0, so, S, h, k, kx⟩ =>
  goI so S h kx fun J items ok H1 H' M1 e1 so1 S1 io w kx1 => by
    intro Dl hD
    have S1' := S1.newCell (vs := []) (xs := []) hD .nil
    have sw := slot_wipe so1 vs
    refine ⟨fun i m H2 => m = items.length - i ∧ i ≤ items.length ∧ ∃ M2 H3, Ext H1 H3 ∧ SD K H3 H2 M2 ∧ lcW ok g t de (wipeD env vs) q Dl (items.drop i) M2,
      ⟨_, rfl, Nat.zero_le _, _, H1, Ext.refl _, S1', w Dl (S1.fresh hD).2⟩, ?_⟩
    rintro i m H2 ⟨rfl, hi2, M2, H3, e3, S3, w3⟩
    by_cases hlt : i < items.length
    · have hx : items[i]? = some items[i] := List.getElem?_eq_getElem hlt
      rw [List.drop_eq_getElem_cons hlt] at w3
      obtain ⟨o3, w3⟩ := w3
      obtain ⟨g1, g2⟩ := io.go H3 H2 M2 i _ e3 S3 o3 hx
      refine .inr ⟨g1, fun H4 => ∃ M4 H5, Ext H1 H5 ∧ SD K H5 H4 M4 ∧ lcW ok g t de (wipeD env vs) q Dl (items.drop (i + 1)) M4, fun H4 z => ⟨items.length - (i + 1), by omega, rfl, hlt, z⟩, fun x H4 y => ?_⟩
      obtain ⟨H5, e5, S5, r5⟩ := g2 x H4 y
      refine ⟨_, _, M2, _, H5, r5, sw.mono (e3.trans e5), S5, w3, fun σ6 env6 H6 H6' M6 e6 so6 S6 w6 wz => ⟨?_, goT so6 S6 w6 kx0 fun b H7 H7' M7 e7 so7 S7 w7 _ => ?_⟩⟩
      · have z : ∀ (ws : List Nat), (∀ v ∈ ws, v ∈ vs) → wipe (wipe σ vs) ws = wipe σ vs := fun ws => by
          induction ws with
          | nil => intro _; rfl
          | cons v ws ih =>
            intro hv
            show (wipe (wipe σ vs) ws).set v none = wipe σ vs
            rw [ih fun u hu => hv u (List.mem_cons_of_mem _ hu)]
            exact wipe_idem (hv v List.mem_cons_self)
        rw [wz]
        exact z vs fun _ h => h
      · have e17 : Ext H1 H7 := ((e3.trans e5).trans e6).trans e7
        cases b with
        | true =>
          refine iteT ?_
          refine goE so7 S7 (show de env6 M7 _ noX from w7) kx0 fun v d H8 H8' M8 e8 so8 S8 r8 ⟨xs, ex, hl, w8⟩ _ => ?_
          obtain ⟨n0, us, e9, r9⟩ := S8.cell Dl xs ex
          exact ⟨us, e9, by rw [r9.length]; exact hl, _, H8, e17.trans e8, S8.write ex (r9.app (.one r8)), w8⟩
        | false => exact iteF ⟨M7, H7, e17, S7, w7⟩
    · have hge : items.length ≤ i := Nat.le_of_not_lt hlt
      rw [List.drop_eq_nil_of_le hge] at w3
      obtain ⟨o3, xs, ex, w3⟩ := w3
      refine .inl ⟨io.stop H3 H2 M2 i e3 S3 o3 hge, ?_⟩
      obtain ⟨us, _, n0, S4, r4⟩ := S3.freeze ex
      exact k _ _ _ H2 _ ((e1.trans e3).trans (Ext.add n0)) S4 r4 w3
theorem pd_lc {elt tg iter : Expr} {ifs : List Expr} {scope : Scope} {own : List (Str × Nat)} {pos : Pos} {di : DI} {g : GD} {t : DT} {de : DE} (hc : X.calm = true) (hN : X.N.Nodup) (hi : ID X W tg iter di) (ok : BlkOk X.N X.env.scope scope own)
    (hg : ∀ (s : Shared) (H : Hp) (C : Addr) (cl : List (Str × Addr)) (fp : List Addr), TgW (X.blk s H scope (compEnvC scope cl C X.env) fp) tg g (own.map (·.2))) (ht : ∀ (s : Shared) (H : Hp) (C : Addr) (cl : List (Str × Addr)) (fp : List Addr), TsD (X.blk s H scope (compEnvC scope cl C X.env) fp) ifs t)
    (he : ∀ (s : Shared) (H : Hp) (C : Addr) (cl : List (Str × Addr)) (fp : List Addr), PD (X.blk s H scope (compEnvC scope cl C X.env) fp) WF elt de) (hs : ∀ x, foldedSetIterable iter X.env x = pure x := by intro _; rfl) :
    PD X W (.ListComp elt [⟨tg, iter, ifs, 0⟩] scope pos) (dLc di g t de (own.map (·.2))) := peImp (pe_lc (g := liftGw X.K g (own.map Prod.snd)) (tt := liftT X.K WF t) (te := liftE X.K WF de) hc hN hi ok hg ht he hs) lift_lc
/-- name = [..] on one line, the name a plain local -/
theorem sd_setLc (i : Nat) {y : Str} {py : Pos} {elt tg iter : Expr} {ifs : List Expr} {scope : Scope} {own : List (Str × Nat)} {pos spos : Pos} {di : DI} {g : GD} {t : DT} {de : DE} (hc : X.calm = true) (hN : X.N.Nodup)
    (hsw : swapsWith (.ListComp elt [⟨tg, iter, ifs, 0⟩] scope pos) (some (.Name y py)) spos.line X.env = pure true) (hi : ID X W tg iter di) (ok : BlkOk X.N X.env.scope scope own)
    (hg : ∀ (s : Shared) (H : Hp) (C : Addr) (cl : List (Str × Addr)) (fp : List Addr), TgW (X.blk s H scope (compEnvC scope cl C X.env) fp) tg g (own.map (·.2))) (ht : ∀ (s : Shared) (H : Hp) (C : Addr) (cl : List (Str × Addr)) (fp : List Addr), TsD (X.blk s H scope (compEnvC scope cl C X.env) fp) ifs t)
    (he : ∀ (s : Shared) (H : Hp) (C : Addr) (cl : List (Str × Addr)) (fp : List Addr), PD (X.blk s H scope (compEnvC scope cl C X.env) fp) WF elt de) (hy : X.N[i]? = some y := by rfl) (hyl : X.env.scope.names.lookup y = some .local := by rfl)
    (hs : ∀ x, foldedSetIterable iter X.env x = pure x := by intro _; rfl) : SDt X W (.Assign [.Name y py] (.ListComp elt [⟨tg, iter, ifs, 0⟩] scope pos) spos) (dSet i (dLc di g t de (own.map (·.2)))) :=
  psImp (ps_setLc (g := liftGw X.K g (own.map Prod.snd)) (tt := liftT X.K WF t) (te := liftE X.K WF de) hc hN hy hyl hsw hi ok hg ht he hs) fun D σ H ⟨env, M, d, H0, so, S, h, k⟩ =>
    lift_lc σ H _ (goE so S h (k.ex.at so) fun x dx H1 H' M1 e1 so1 S1 rx w kx1 => k.nx _ _ H1 H' M1 e1 (so1.set i rx) S1 w)
end
abbrev SpD := List D → Mem → QD → XD → Prop
def spOf (K : PySem.W.Frag) (n : Nat) (sd : SpD) : Sp := fun vs H Q E => ∃ ds M q ex H0, ds.length = n ∧ DnL K H0 vs ds ∧ SD K H0 H M ∧ sd ds M q ex ∧ KQ K H0 q Q ∧ KX K H0 ex E
@[reducible] def startD (N : List Str) (ds : List D) : EnvD := ds.map some ++ List.replicate (N.length - ds.length) none
theorem slot_start {K : PySem.W.Frag} {H0 : Hp} {N : List Str} {vs : List V} {ds : List D} (r : DnL K H0 vs ds) : SlotOk K H0 (L2.start N vs) (startD N ds) := by
  refine ⟨?_, fun i d h => ?_⟩
  · unfold L2.start startD
    rw [List.length_append, List.length_append, List.length_map, List.length_map, List.length_replicate, List.length_replicate, r.length]
  · unfold startD at h
    by_cases hi : i < ds.length
    · rw [List.getElem?_append_left (by simpa using hi), List.getElem?_map] at h
      obtain ⟨e, h1, h2⟩ := omap h
      cases h2
      obtain ⟨v, hv, rv⟩ := r.get h1
      refine ⟨v, ?_, rv⟩
      unfold L2.start
      rw [List.getElem?_append_left (by rw [List.length_map, r.length]; exact hi), List.getElem?_map, hv]
      rfl
    · rw [List.getElem?_append_right (by simpa using hi), List.getElem?_replicate] at h
      split at h <;> cases h
/-- a def of the text, guards known to be none while it runs -/
structure FnG (P : Program) (w : World) (K : PySem.W.Frag) (mg : Str → Option Value) (base : Heap) (k : Nat) (f : Addr) (fd : FuncData) (ps : List Str) (sp : Sp) : Prop where
  len : ∀ vs H Q E, sp vs H Q E → vs.length = ps.length
  run : ∀ (A : Around) (fr : List Env) (s : Shared) (H : Hp) (args : Args) (us : List Value) (vs : List V) (Q : VK) (E : XK), Room k A → A.guards = some [] → Env0 P w K mg base A fr s H → BindsTo s fd args (ps.zip us) → Vals vs us → sp vs H Q E →
    codeAny (model P w) A (.call (.ref f) args) (CR (L2.CX P w) fr P w H s Q E) s
section
variable {P : Program} {w : World} {K : PySem.W.Frag} {mg : Str → Option Value} {base : Heap} {x qual : Str} {params : Arguments} {body : List Stmt} {scope : Scope} {dvs : List V} {kws : List (Str × V)} {f : Addr} {fd : FuncData}
theorem FnG.of {k : Nat} {ps : List Str} {sp : Sp} (F : FnOk P w K mg base (L2.CX P w) k f fd ps sp) : FnG P w K mg base k f fd ps sp := ⟨F.len, fun A fr s H args us vs Q E hr _ => F.run A fr s H args us vs Q E hr⟩
theorem FnG.mono {j k : Nat} {ps : List Str} {sp : Sp} (F : FnG P w K mg base j f fd ps sp) (h : j ≤ k) : FnG P w K mg base k f fd ps sp := ⟨F.len, fun A fr s H args us vs Q E hr => F.run A fr s H args us vs Q E (hr.mono h)⟩
/-- what a body is to show -/
def Keeps (N : List Str) (n : Nat) (sd : SpD) (db : DS) : Prop := ∀ ds M q ex, ds.length = n → sd ds M q ex → db { nx := fun _ M' => q .non M', rt := q, ex := fun _ => ex } (startD N ds) M
theorem keeps_run {N : List Str} {n : Nat} {sd : SpD} {db : DS} (hk : Keeps N n sd db) {vs : List V} {H : Hp} {Q : VK} {E : XK} (h : spOf K n sd vs H Q E) : liftS K (fun c d _ H => E c d H) db { nx := fun _ H' => Q .non H', rt := Q } (L2.start N vs) H := by
  obtain ⟨ds, M, q, ex, H0, hl, r, S, h, kq, kx⟩ := h
  exact ⟨startD N ds, M, _, H0, slot_start r, S, hk ds M q ex hl h, ⟨fun _ _ H1 H' M' e so' S' w => kq _ _ H1 H' M' e S' .non w, kq, fun _ _ _ _ _ _ _ _ z => z.elim, fun _ _ _ _ _ _ _ _ z => z.elim, fun H1 _ _ e _ => kx.mono e⟩⟩
theorem sp_len {n : Nat} {sd : SpD} {ps : List Str} (hn : ps.length = n) : ∀ vs H Q E, spOf K n sd vs H Q E → vs.length = ps.length := fun vs H Q E ⟨ds, M, q, ex, H0, hl, r, _⟩ => by rw [r.length, hl, hn]
/-- THE RULE for a def whose body asks no guards -/
theorem okD {N ps : List Str} {k n : Nat} {sd : SpD} {db : DS} (F : FunD K x qual params body scope dvs kws f fd) (Sc : FnScope N ps scope) (hn : ps.length = n)
    (hb : ∀ (cdv : Value) (A : Around) (fr : List Env) (s : Shared) (H : Hp) (E : XK), Room k (A.deeper (envOfC qual scope s.heap.objs.size f cdv)) → BD (cxOf (L2.CX P w) P w K mg base N qual scope f cdv A fr s H E) (fun c d _ H => E c d H) body db)
    (hk : Keeps N n sd db) : FnOk P w K mg base (L2.CX P w) (k + 1) f fd ps (spOf K n sd) :=
  F.ok Sc (sp_len hn) fun cdv A fr s H vs Q E hr h => ⟨_, hb cdv A fr s H E hr, keeps_run hk h⟩
/-- .. where guards are known to be none -/
theorem okG {N ps : List Str} {k n : Nat} {sd : SpD} {db : DS} (F : FunD K x qual params body scope dvs kws f fd) (Sc : FnScope N ps scope) (hn : ps.length = n)
    (hb : ∀ (cdv : Value) (A : Around) (fr : List Env) (s : Shared) (H : Hp) (E : XK), Room k (A.deeper (envOfC qual scope s.heap.objs.size f cdv)) → A.guards = some [] → BD (cxOf (L2.CX P w) P w K mg base N qual scope f cdv A fr s H E) (fun c d _ H => E c d H) body db)
    (hk : Keeps N n sd db) : FnG P w K mg base (k + 1) f fd ps (spOf K n sd) := by
  obtain ⟨oc, od, dV, kV, doc, pm, an, cdv, ct, osl, rfl, lk, hcd, _, _⟩ := F.ex
  refine ⟨sp_len hn, fun A fr s H args us vs Q E hr hg e0 hbd rv hsp => ?_⟩
  have hl := sp_len hn _ _ _ _ hsp
  have kIn : K.In s.heap := e0.mod.kin.keeps fun b o e => (e0.bs b o e).1
  have noL : s.heap.NoLimit := e0.mod.nolimit.keeps fun b o e => (e0.bs b o e).1
  refine codeAny_call_function hr.depth (kIn _ _ lk) rfl Sc.co Sc.gen rfl (PySem.W.codeRec_of kIn hcd) (hbd _ _ _ _ (wpAny_newFunctionEnv_cells Sc.kind (fun ⟨y, v⟩ hy => ?_) fun env he s1 ic => ?_))
  · rcases Sc.par y (List.of_mem_zip hy).1 with z | z
    · exact .inl z
    · exact .inr ⟨z, PySem.W.cellsFrom_some _ _ _ (.inl z)⟩
  · subst he
    have J := inv_start (CX := L2.CX P w) (E := E) (cd := cdv) (f := f) (qual := qual) Sc hr.hd e0 hl rv ic
    refine ⟨noL.keeps ic.toInCall.keep, codeAny_func (wpAny_mono ((hb cdv A fr s H E (hr.deeper _) hg).run [] s1 (L2.start N vs) H _ J (keeps_run hk hsp)) (fun fl s2 out => ?_) fun e s2 out => out)⟩
    cases fl with
    | ret u => obtain ⟨v, _, H', J', ru, q⟩ := out; exact ⟨v, H', J'.os, J'.bare, J'.base, J'.hok, ru, q⟩
    | next => obtain ⟨_, H', J', q⟩ := out; exact ⟨.non, H', J'.os, J'.bare, J'.base, J'.hok, rfl, q⟩
    | brk => obtain ⟨_, _, _, q⟩ := out; exact q.elim
    | cont => obtain ⟨_, _, _, q⟩ := out; exact q.elim
end
section
variable {X : Cx} {W : WX} {k n : Nat} {f : Addr} {fd : FuncData} {ps : List Str} {sd : SpD} {x : Str} {p pos : Pos} {e : Expr} {es : List Expr} {da : DA}
@[reducible] def dCall (n : Nat) (sd : SpD) (da : DA) : DE := fun env M q E => da env M (fun ds M1 => ds.length = n ∧ sd ds M1 q E) E
theorem lift_call : ∀ σ H Q, liftE X.K W (dCall n sd da) σ H Q → tCallSD (spOf X.K n sd) [] (WE W) (liftA X.K W da) σ H Q := fun σ H Q ⟨env, M, q, E, H0, so, S, h, kq, kx⟩ =>
  goA so S h kx fun vs ds H1 H' M1 e1 so1 S1 rs ⟨hl, w⟩ kx1 => by
    rw [List.append_nil]
    exact ⟨ds, M1, q, E, H1, hl, rs, S1, w, kq.mono e1, kx1⟩
theorem pd_call (F : FnOk X.prog X.w X.K X.mg X.base (L2.CX X.prog X.w) k f fd ps (spOf X.K n sd)) (hr : Room k X.A) (hg : Gl X x) (hm : X.mg x = some (.ref f)) (hk : PySem.W.keepIn X.K (.ref f) = true) (hb : Binds X.K fd ps []) (tk : Takes X W)
    (ha : AD X W (e :: es) da) (hdb : (x == ("__debug__" : Str)) = false := by decide) (he : starEach (e :: es) X.env = (false, eval e X.env) :: starEach es X.env := by rfl) (hpl : (backTo pos (starEach es X.env)).any (·.1) = false := by rfl) :
    PD X W (.Call (.Name x p) (e :: es) [] pos) (dCall n sd da) := peImp (pe_callSD F hr hg hm hk hb .nil (fun σ => passAt tk σ) ha hdb he hpl) lift_call
theorem run_fnG {sp : Sp} {pins : List (Addr × Obj)} {σ : L2.St} {H : Hp} {s : Shared} {Q : VK} {us : List Value} {vs : List V} (F : FnG X.prog X.w X.K X.mg X.base k f fd ps sp) (hr : Room k X.A) (hgd : X.A.guards = some []) (hb : Binds X.K fd ps []) (tk : Takes X W)
    (I : Inv X pins σ H s) (r : Vals vs us) (h : sp vs H Q (WE W σ)) : wpAny (model X.prog X.w) X.A (call (.ref f) us) (EP X pins σ Q) X.xe s := by
  have hl : us.length = ps.length := by rw [← r.length]; exact F.len _ _ _ _ h
  have b2 := hb s us I.kIn (by rw [List.append_nil]; exact hl)
  rw [List.append_nil] at b2
  refine wpAny_call (codeAny_mono (F.run X.A X.stack s H ⟨us, []⟩ us vs Q (WE W σ) hr hgd I.env0 b2 r h) fun res s' out => ?_)
  cases res with
  | error e => exact passAt tk σ pins H s e s' I out
  | ok fl =>
    cases fl with
    | ret u => exact I.after out
    | next => exact out.elim
    | brk => exact out.elim
    | cont => exact out.elim
theorem pd_callG (F : FnG X.prog X.w X.K X.mg X.base k f fd ps (spOf X.K n sd)) (hr : Room k X.A) (hgd : X.A.guards = some []) (hg : Gl X x) (hm : X.mg x = some (.ref f)) (hk : PySem.W.keepIn X.K (.ref f) = true) (hb : Binds X.K fd ps []) (tk : Takes X W)
    (ha : AD X W (e :: es) da) (hdb : (x == ("__debug__" : Str)) = false := by decide) (he : starEach (e :: es) X.env = (false, eval e X.env) :: starEach es X.env := by rfl) (hpl : (backTo pos (starEach es X.env)).any (·.1) = false := by rfl) :
    PD X W (.Call (.Name x p) (e :: es) [] pos) (dCall n sd da) := by
  constructor
  intro pins s σ H Q I ⟨env, M, q, E, H0, so, S, h, kq, kx⟩
  refine wpAny_Call_Name_kw (ld_glob I hg hm ?_ hdb)
  refine PySem.W.callWith_K (h₀ := X.base) I.ok.mod.kin hk (wpAny_mono (PA.run ha pos pins s σ H _ I (goA (Q := fun vs H' => spOf X.K n sd vs H' Q (WE W σ)) so S h kx fun vs ds H1 H' M1 e1 so1 S1 rs ⟨hl, w⟩ kx1 => ⟨ds, M1, q, E, H1, hl, rs, S1, w, kq.mono e1, kx1⟩)) (fun us s1 out => ?_) fun _ _ z => z) he hpl
  obtain ⟨vs, H1, I1, r, q1⟩ := out
  exact ⟨I1.kIn, run_fnG F hr hgd hb tk I1 r q1⟩
end
end DL
set_option maxRecDepth 100000
set_option maxHeartbeats 4000000
namespace DL
open PySem PySem.Spec PyProof.Rows L2
section
variable {X : Cx} {W : WX}
/-- cell.append(e) -/
@[reducible] def dApp (do_ : DE) (da : DA) : DE := fun env M q E => do_ env M (fun o M1 => ∃ c zs, o = .cel c ∧ M1 c = some (.ls zs) ∧ da env M1 (fun ds M2 => ∃ ys y, ds = [y] ∧ M2 c = some (.ls ys) ∧ ys.length < sizeLine ∧ q .non (mset M2 c (.ls (ys ++ [y])))) E) E
theorem pd_app {o e : Expr} {do_ : DE} {da : DA} {apos cpos : Pos} (ho : PD X W o do_) (ha : AD X W [e] da) (hbase : attributeBase o "append" X.env (eval o X.env) = eval o X.env := by rfl)
    (hfew : ((backTo cpos (starEach (e :: []) X.env)).all (fun x => !x.1) && (backToKw cpos (keywordEach [] X.env)).all (fun x => x.1.isSome) && decide ((e :: []).length + ([] : List Keyword).length + (if ([] : List Keyword).isEmpty then 0 else 1) < 30)) = true := by rfl)
    (hline : (apos.endLine == cpos.line) = true := by rfl) (hs : starEach [e] X.env = (false, eval e X.env) :: starEach [] X.env := by rfl) (hpl : (backTo cpos (starEach [] X.env)).any (·.1) = false := by rfl) : PD X W (.Call (.Attribute o "append" apos) [e] [] cpos) (dApp do_ da) :=
  peImp (pe_bm PySem.F.plainAttrs_list PySem.F.slot_list_append PySem.F.type_list_append mt_append ho ha hbase hfew hline hs hpl) fun σ H Q ⟨env, M, q, E, H0, so, S, h, k, kx⟩ =>
    goE so S h kx fun x dx H1 H' M1 e1 so1 S1 rx ⟨c, zs, ec, em, h1⟩ kx1 => by
      subst ec
      cases rx
      obtain ⟨_, us, hu, _⟩ := S1.cell c zs em
      refine ⟨.inl ⟨rfl, us, SqL.of hu⟩, goA so1 S1 h1 kx1 fun xs ds H2 H'' M2 e2 so2 S2 rs ⟨ys, y, ed, em2, hl, w⟩ kx2 => ?_⟩
      subst ed
      obtain ⟨v, rfl, rv⟩ := dnl1 rs
      obtain ⟨_, vs, hv, r⟩ := S2.cell c ys em2
      exact ⟨c, vs, v, rfl, rfl, hv, by rw [r.length]; exact hl, k _ _ H2 _ _ (e1.trans e2) (S2.write em2 (r.app (.one rv))) .non w⟩
/-- methods of texts, one argument | none -/
@[reducible] def dM1 (rd : Str → D → Mem → QD → Prop) (do_ de : DE) : DE := fun env M q E => do_ env M (fun o M1 => ∃ a, o = .str a ∧ de env M1 (fun x M2 => rd a x M2 q) E) E
def rdSplit : Str → D → Mem → QD → Prop := fun a x M q => ∃ b, x = .str b ∧ (b.length == 0) = false ∧ a.length + 2 ≤ sizeLine ∧ q (.lst ((Txt.split a b).map D.str)) M
def strsD : List D → Option (List Str)
  | [] => some []
  | .str x :: ds => (strsD ds).map (x :: ·)
  | _ => none
theorem strs_dn {K : PySem.W.Frag} {H : Hp} : ∀ {ds : List D} {vs : List V} {bs : List Str}, DnL K H vs ds → strsD ds = some bs → vs = bs.map V.str
  | _, _, _, .nil, e => by cases e; rfl
  | _, _, _, .cons (d := .str b) h r, e => by
    obtain ⟨cs, e1, rfl⟩ := omap (show (strsD _).map (b :: ·) = some _ from e)
    rw [h.inv_str, strs_dn r e1]; rfl
  | _, _, _, .cons (d := .non) _ _, e | _, _, _, .cons (d := .int _) _ _, e | _, _, _, .cons (d := .bl _) _ _, e | _, _, _, .cons (d := .ty _) _ _, e | _, _, _, .cons (d := .lst _) _ _, e
  | _, _, _, .cons (d := .lsf _) _ _, e | _, _, _, .cons (d := .tup _) _ _, e | _, _, _, .cons (d := .dic _ _) _ _, e | _, _, _, .cons (d := .ins _ _ _) _ _, e | _, _, _, .cons (d := .cel _) _ _, e => by cases e
def intsD : List D → Option (List Int)
  | [] => some []
  | .int x :: ds => (intsD ds).map (x :: ·)
  | _ => none
theorem ints_dn {K : PySem.W.Frag} {H : Hp} : ∀ {ds : List D} {vs : List V} {bs : List Int}, DnL K H vs ds → intsD ds = some bs → vs = bs.map V.int
  | _, _, _, .nil, e => by cases e; rfl
  | _, _, _, .cons (d := .int b) h r, e => by
    obtain ⟨cs, e1, rfl⟩ := omap (show (intsD _).map (b :: ·) = some _ from e)
    rw [h.inv_int, ints_dn r e1]; rfl
  | _, _, _, .cons (d := .non) _ _, e | _, _, _, .cons (d := .str _) _ _, e | _, _, _, .cons (d := .bl _) _ _, e | _, _, _, .cons (d := .ty _) _ _, e | _, _, _, .cons (d := .lst _) _ _, e
  | _, _, _, .cons (d := .lsf _) _ _, e | _, _, _, .cons (d := .tup _) _ _, e | _, _, _, .cons (d := .dic _ _) _ _, e | _, _, _, .cons (d := .ins _ _ _) _ _, e | _, _, _, .cons (d := .cel _) _ _, e => by cases e
theorem dn_strs {K : PySem.W.Frag} {H : Hp} : ∀ xs : List Str, DnL K H (xs.map V.str) (xs.map D.str)
  | [] => .nil
  | x :: xs => .cons (.str x) (dn_strs xs)
theorem dn_ints {K : PySem.W.Frag} {H : Hp} : ∀ xs : List Int, DnL K H (xs.map V.int) (xs.map D.int)
  | [] => .nil
  | x :: xs => .cons (.int x) (dn_ints xs)
theorem ints_map : ∀ xs : List Int, intsD (xs.map D.int) = some xs
  | [] => rfl
  | x :: xs => by show (intsD (xs.map D.int)).map (x :: ·) = _; rw [ints_map xs]; rfl
theorem strs_map : ∀ xs : List Str, strsD (xs.map D.str) = some xs
  | [] => rfl
  | x :: xs => by show (strsD (xs.map D.str)).map (x :: ·) = _; rw [strs_map xs]; rfl
def rdJoin : Str → D → Mem → QD → Prop := fun a x M q => ∃ xs ys, seqOf M x = some xs ∧ strsD xs = some ys ∧ (ys.map (·.length)).sum + ys.length * a.length ≤ 16777216 ∧ q (.str (Txt.join a ys)) M
theorem pd_join {o e : Expr} {do_ de : DE} {apos pos : Pos} (ho : PD X W o do_) (he : PD X W e de) (hs : starEach [e] X.env = [(false, eval e X.env)] := by rfl) (hbase : attributeBase o "join" X.env (eval o X.env) = eval o X.env := by rfl) (hline : (apos.endLine == pos.line) = true := by rfl) :
    PD X W (.Call (.Attribute o "join" apos) [e] [] pos) (dM1 rdJoin do_ de) := peImp (pe_join ho he hs hbase hline) fun σ H Q ⟨env, M, q, E, H0, so, S, h, k, kx⟩ =>
  goE so S h kx fun x dx H1 H' M1 e1 so1 S1 rx ⟨a, ea, h1⟩ kx1 => by
    subst ea
    cases rx
    refine ⟨⟨a, rfl⟩, goE so1 S1 h1 kx1 fun y dy H2 H'' M2 e2 so2 S2 ry ⟨xs, ys, es, ey, hz, w⟩ kx2 => ?_⟩
    obtain ⟨p, vs, rfl, hp, r⟩ := S2.seq ry es
    have z := strs_dn r ey
    subst z
    exact ⟨a, p, ys, rfl, rfl, hp, hz, k _ _ H2 _ _ (e1.trans e2) S2 (.str _) w⟩
theorem pd_split {o e : Expr} {do_ de : DE} {apos pos : Pos} (ho : PD X W o do_) (he : PD X W e de) (hs : starEach [e] X.env = [(false, eval e X.env)] := by rfl) (hbase : attributeBase o "split" X.env (eval o X.env) = eval o X.env := by rfl) (hline : (apos.endLine == pos.line) = true := by rfl) :
    PD X W (.Call (.Attribute o "split" apos) [e] [] pos) (dM1 rdSplit do_ de) := peImp (pe_split ho he hs hbase hline) fun σ H Q ⟨env, M, q, E, H0, so, S, h, k, kx⟩ =>
  goE so S h kx fun x dx H1 H' M1 e1 so1 S1 rx ⟨a, ea, h1⟩ kx1 => by
    subst ea
    cases rx
    refine ⟨⟨a, rfl⟩, goE so1 S1 h1 kx1 fun y dy H2 H'' M2 e2 so2 S2 ry ⟨b, eb, h0, hz, w⟩ kx2 => ?_⟩
    subst eb
    cases ry
    exact ⟨a, b, rfl, rfl, h0, hz, fun p hp => (k.mono (e1.trans e2)).newL S2 (dn_strs _) w p hp⟩
def rdSortI : RDL := fun ds M q => ∃ d xs ns, ds = [d] ∧ lsqOf M d = some xs ∧ intsD xs = some ns ∧ ∀ ns' : List Int, ns'.Perm ns → ns'.Pairwise (· ≤ ·) → q (.lst (ns'.map D.int)) M
theorem cd_sortI : CallD X (.builtin "sorted") rdSortI := ⟨_, cr_sortedI, fun H0 H M xs ds q Q S r w k => by
  obtain ⟨d, ys, ns, rfl, e, en, w⟩ := w
  obtain ⟨v, rfl, rv⟩ := dnl1 r
  obtain ⟨a, vs, rfl, hs, rs⟩ := S.lsq rv e
  have z := ints_dn rs en
  subst z
  exact ⟨a, ns, rfl, hs, fun ns' p h1 h2 hp => k.newL S (dn_ints _) (w ns' h1 h2) p hp⟩⟩
def rdMinL : RDL := fun ds M q => ∃ d xs ns, ds = [d] ∧ lsqOf M d = some xs ∧ intsD xs = some ns ∧ 0 < ns.length ∧ ∀ m, m ∈ ns → (∀ y, y ∈ ns → m ≤ y) → q (.int m) M
theorem cd_minL (hc : X.calm = true) : CallD X (.builtin "min") rdMinL := ⟨_, cr_min hc, fun H0 H M xs ds q Q S r w k => by
  obtain ⟨d, ys, ns, rfl, e, en, hl, w⟩ := w
  obtain ⟨v, rfl, rv⟩ := dnl1 r
  obtain ⟨a, vs, rfl, hs, rs⟩ := S.lsq rv e
  have z := ints_dn rs en
  subst z
  exact ⟨a, ns, rfl, hs, hl, fun m h1 h2 => k.here S (.int _) (w m h1 h2)⟩⟩
def keyD : D → Option Key
  | .int i => some (.inl i)
  | .str x => some (.inr x)
  | _ => none
theorem keyD_dn {K : PySem.W.Frag} {H : Hp} {v : V} {d : D} {k : Key} (h : Dn K H v d) (e : keyD d = some k) : v = kV k := by
  cases h <;> first
    | (cases e; rfl)
    | cases e
def getK (kvs : List (Key × D)) (k : Key) : Option D := (kvs.find? fun kv => decide (kv.1 = k)).map (·.2)
def setK (kvs : List (Key × D)) (k : Key) (v : D) : List (Key × D) := if (kvs.any fun kv => decide (kv.1 = k)) = true then kvs.map (fun kv => if kv.1 = k then (kv.1, v) else kv) else kvs ++ [(k, v)]
theorem KvL.length {K : PySem.W.Frag} {H : Hp} : ∀ {r : List (Key × V)} {s : List (Key × D)}, KvL K H r s → r.length = s.length
  | _, _, .nil => rfl
  | _, _, .cons _ b => congrArg (· + 1) (KvL.length b)
theorem KvL.get {K : PySem.W.Frag} {H : Hp} {k : Key} : ∀ {r : List (Key × V)} {s : List (Key × D)}, KvL K H r s → (getK s k = none ∧ valV r k = none) ∨ ∃ v d, getK s k = some d ∧ valV r k = some v ∧ Dn K H v d
  | _, _, .nil => .inl ⟨rfl, rfl⟩
  | _, _, .cons (k := k') (v := v) (d := d) a b => by
    by_cases e : k' = k
    · exact .inr ⟨v, d, by simp [getK, List.find?_cons, e], valV_pos e, a⟩
    · have ih := KvL.get (k := k) b
      have e1 : ∀ s, getK ((k', d) :: s) k = getK s k := fun s => by simp [getK, List.find?_cons, e]
      rw [valV_neg (p := (k', v)) e, e1]
      exact ih
theorem KvL.any {K : PySem.W.Frag} {H : Hp} {k : Key} : ∀ {r : List (Key × V)} {s : List (Key × D)}, KvL K H r s → (r.any fun kv => decide (kv.1 = k)) = s.any fun kv => decide (kv.1 = k)
  | _, _, .nil => rfl
  | _, _, .cons a b => by rw [List.any_cons, List.any_cons, KvL.any b]
theorem KvL.repl {K : PySem.W.Frag} {H : Hp} {k : Key} {v : V} {d : D} (h : Dn K H v d) : ∀ {r : List (Key × V)} {s : List (Key × D)}, KvL K H r s → KvL K H (r.map fun kv => if kv.1 = k then (kv.1, v) else kv) (s.map fun kv => if kv.1 = k then (kv.1, d) else kv)
  | _, _, .nil => .nil
  | _, _, .cons (k := k') a b => by
    rw [List.map_cons, List.map_cons]
    by_cases e : k' = k
    · rw [if_pos e, if_pos e]; exact .cons h (KvL.repl h b)
    · rw [if_neg e, if_neg e]; exact .cons a (KvL.repl h b)
theorem KvL.snoc {K : PySem.W.Frag} {H : Hp} {k : Key} {v : V} {d : D} (h : Dn K H v d) : ∀ {r : List (Key × V)} {s : List (Key × D)}, KvL K H r s → KvL K H (r ++ [(k, v)]) (s ++ [(k, d)])
  | _, _, .nil => .cons h .nil
  | _, _, .cons a b => .cons a (KvL.snoc h b)
theorem KvL.put {K : PySem.W.Frag} {H : Hp} {k : Key} {v : V} {d : D} {r : List (Key × V)} {s : List (Key × D)} (b : KvL K H r s) (h : Dn K H v d) : KvL K H (putK r k v) (setK s k d) := by
  unfold putK setK
  rw [KvL.any b]
  split
  · exact KvL.repl h b
  · exact KvL.snoc h b
theorem SD.dict {K : PySem.W.Frag} {H0 H : Hp} {M : Mem} (S : SD K H0 H M) {c : Addr} {s : List (Key × D)} (h : M c = some (.dc s)) : H0 c = none ∧ ∃ r, H c = some (.dK r) ∧ KvL K H0 r s := S.any c _ h
/-- d[k], there -/
@[reducible] def dDGet (dd dk : DE) : DE := fun env M q E => dd env M (fun o M1 => dk env M1 (fun y M2 => ∃ c s k v, o = .cel c ∧ M2 c = some (.dc s) ∧ keyD y = some k ∧ getK s k = some v ∧ q v M2) E) E
theorem pd_dget {o i : Expr} {dd dk : DE} {pos : Pos} (hu : X.A.units + 1 < cLine) (ho : PD X W o dd) (hi : PD X W i dk) (hs : NoSl i) : PD X W (.Subscript o i pos) (dDGet dd dk) := peImp (pe_dget hu ho hi hs) fun σ H Q ⟨env, M, q, E, H0, so, S, h, k, kx⟩ =>
  goE so S h kx fun x dx H1 H' M1 e1 so1 S1 rx h1 kx1 => goE so1 S1 h1 kx1 fun y dy H2 H'' M2 e2 so2 S2 ry ⟨c, s, kk, d, ec, em, ek, eg, w⟩ kx2 => by
    subst ec
    cases rx
    have z := keyD_dn ry ek
    subst z
    obtain ⟨_, r, hr, kv⟩ := S2.dict em
    rcases kv.get (k := kk) with ⟨g1, _⟩ | ⟨v, d', g1, g2, rv⟩
    · rw [eg] at g1; cases g1
    · rw [eg] at g1; cases g1
      exact ⟨c, v, rfl, by rw [← g2]; exact DGet.k hr, k _ _ H2 _ _ (e1.trans e2) S2 rv w⟩
/-- d.get(k, x) -/
@[reducible] def dDGet2 (dd dk dx : DE) : DE := fun env M q E => dd env M (fun o M1 => ∃ c s0, o = .cel c ∧ M1 c = some (.dc s0) ∧ dk env M1 (fun y M2 => dx env M2 (fun z M3 => ∃ s k, M3 c = some (.dc s) ∧ keyD y = some k ∧ q ((getK s k).getD z) M3) E) E) E
theorem pd_dget2 {o e f : Expr} {dd dk dx : DE} {apos cpos : Pos} (hu : X.A.units + 1 < cLine) (ho : PD X W o dd) (he : PD X W e dk) (hf : PD X W f dx) (m : M2 X o "get" apos e f cpos) : PD X W (.Call (.Attribute o "get" apos) [e, f] [] cpos) (dDGet2 dd dk dx) :=
  peImp (pe_dget2 hu ho he hf m) fun σ H Q ⟨env, M, q, E, H0, so, S, h, k, kx⟩ => goE so S h kx fun x dx H1 H' M1 e1 so1 S1 rx ⟨c, s0, ec, em0, h1⟩ kx1 => by
    subst ec
    cases rx
    obtain ⟨_, r0, hr0, _⟩ := S1.dict em0
    refine ⟨c, rfl, .inl ⟨r0, .inl hr0⟩, goE so1 S1 h1 kx1 fun y dy H2 H'' M2 e2 so2 S2 ry h2 kx2 => goE so2 S2 h2 kx2 fun z dz H3 H3' M3 e3 so3 S3 rz ⟨s, kk, em, ek, w⟩ kx3 => ?_⟩
    have zz := keyD_dn ry ek
    subst zz
    obtain ⟨_, r, hr, kv⟩ := S3.dict em
    have e13 := (e1.trans e2).trans e3
    rcases kv.get (k := kk) with ⟨g1, g2⟩ | ⟨v, d', g1, g2, rv⟩
    · rw [g1] at w
      exact ⟨none, by rw [← g2]; exact DGet.k hr, k _ _ H3 _ _ e13 S3 rz w⟩
    · rw [g1] at w
      exact ⟨some v, by rw [← g2]; exact DGet.k hr, k _ _ H3 _ _ e13 S3 rv w⟩
/-- d[k] = v -/
@[reducible] def dDPut (dd dk dv : DE) : DS := fun d env M => dv env M (fun v M1 => dd env M1 (fun o M2 => dk env M2 (fun y M3 => ∃ c s k, o = .cel c ∧ M3 c = some (.dc s) ∧ keyD y = some k ∧ s.length < sizeLine ∧ d.nx env (mset M3 c (.dc (setK s k v)))) (d.ex env)) (d.ex env)) (d.ex env)
theorem sd_dput {o i value : Expr} {dd dk dv : DE} {pos pos' : Pos} (hu : X.A.units + 1 < cLine) (ho : PD X W o dd) (hi : PD X W i dk) (hv : PD X W value dv) (hs : swapsWith value (some (.Subscript o i pos')) pos.line X.env = pure false := by rfl) : SDt X W (.Assign [.Subscript o i pos'] value pos) (dDPut dd dk dv) :=
  psImp (ps_dput hu ho hi hv hs) fun D σ H ⟨env, M, d, H0, so, S, h, k⟩ => goE so S h (k.ex.at so) fun x dx H1 H' M1 e1 so1 S1 rx h1 kx1 => goE so1 S1 h1 kx1 fun y dy H2 H'' M2 e2 so2 S2 ry h2 kx2 => goE so2 S2 h2 kx2 fun z dz H3 H3' M3 e3 so3 S3 rz ⟨c, s, kk, ec, em, ek, hl, w⟩ kx3 => by
    subst ec
    cases ry
    have zz := keyD_dn rz ek
    subst zz
    obtain ⟨n0, r, hr, kv⟩ := S3.dict em
    refine ⟨c, _, rfl, DPut.k hr (by rw [kv.length]; exact hl), k.nx _ _ H3 _ _ ((e1.trans e2).trans e3) so3 ?_ w⟩
    exact S3.put n0 fun _ e => ⟨_, e, kv.put (rx.mono (e2.trans e3))⟩
end
/-- a def that may be called: level k, n arguments -/
def Fok (P : Program) (w : World) (K : PySem.W.Frag) (mg : Str → Option Value) (base : Heap) (x : Str) (k n : Nat) (sd : SpD) : Prop :=
  ∃ (f : Addr) (fd : FuncData) (ps : List Str), mg x = some (.ref f) ∧ PySem.W.keepIn K (.ref f) = true ∧ Binds K fd ps [] ∧ FnOk P w K mg base (L2.CX P w) k f fd ps (spOf K n sd)
def Fgd (P : Program) (w : World) (K : PySem.W.Frag) (mg : Str → Option Value) (base : Heap) (x : Str) (k n : Nat) (sd : SpD) : Prop :=
  ∃ (f : Addr) (fd : FuncData) (ps : List Str), mg x = some (.ref f) ∧ PySem.W.keepIn K (.ref f) = true ∧ Binds K fd ps [] ∧ FnG P w K mg base k f fd ps (spOf K n sd)
section
variable {X : Cx} {W : WX} {k n : Nat} {sd : SpD} {x : Str} {p pos : Pos} {e : Expr} {es : List Expr} {da : DA}
theorem pd_fn (F : Fok X.prog X.w X.K X.mg X.base x k n sd) (hr : Room k X.A) (tk : Takes X W) (ha : AD X W (e :: es) da) (hg : Gl X x := by rfl) (hdb : (x == ("__debug__" : Str)) = false := by decide)
    (he : starEach (e :: es) X.env = (false, eval e X.env) :: starEach es X.env := by rfl) (hpl : (backTo pos (starEach es X.env)).any (·.1) = false := by rfl) : PD X W (.Call (.Name x p) (e :: es) [] pos) (dCall n sd da) := by
  obtain ⟨f, fd, ps, hm, hk, hb, F⟩ := F
  exact pd_call F hr hg hm hk hb tk ha hdb he hpl
theorem pd_fg (F : Fgd X.prog X.w X.K X.mg X.base x k n sd) (hr : Room k X.A) (hgd : X.A.guards = some []) (tk : Takes X W) (ha : AD X W (e :: es) da) (hg : Gl X x := by rfl) (hdb : (x == ("__debug__" : Str)) = false := by decide)
    (he : starEach (e :: es) X.env = (false, eval e X.env) :: starEach es X.env := by rfl) (hpl : (backTo pos (starEach es X.env)).any (·.1) = false := by rfl) : PD X W (.Call (.Name x p) (e :: es) [] pos) (dCall n sd da) := by
  obtain ⟨f, fd, ps, hm, hk, hb, F⟩ := F
  exact pd_callG F hr hgd hg hm hk hb tk ha hdb he hpl
end
theorem Fok.g {P : Program} {w : World} {K : PySem.W.Frag} {mg : Str → Option Value} {base : Heap} {x : Str} {k n : Nat} {sd : SpD} (h : Fok P w K mg base x k n sd) : Fgd P w K mg base x k n sd := by
  obtain ⟨f, fd, ps, a, b, c, d⟩ := h
  exact ⟨f, fd, ps, a, b, c, .of d⟩
/-- what a body may let out, it lets out -/
theorem tkF {P : Program} {w : World} {K : PySem.W.Frag} {mg : Str → Option Value} {base : Heap} {N : List Str} {qual : Str} {scope : Scope} {f : Addr} {cd : Value} {A : Around} {fr : List Env} {s : Shared} {H : Hp} {E : XK} :
    Takes (cxOf (L2.CX P w) P w K mg base N qual scope f cd A fr s H E) (fun c d _ H => E c d H) := takes_of rfl rfl rfl rfl
theorem poF {P : Program} {w : World} {K : PySem.W.Frag} {mg : Str → Option Value} {base : Heap} {N : List Str} {qual : Str} {scope : Scope} {f : Addr} {cd : Value} {A : Around} {fr : List Env} {s : Shared} {H : Hp} {E : XK} :
    PassesOwn (model (cxOf (L2.CX P w) P w K mg base N qual scope f cd A fr s H E).prog (cxOf (L2.CX P w) P w K mg base N qual scope f cd A fr s H E).w) (cxOf (L2.CX P w) P w K mg base N qual scope f cd A fr s H E).A
      (cxOf (L2.CX P w) P w K mg base N qual scope f cd A fr s H E).env (cxOf (L2.CX P w) P w K mg base N qual scope f cd A fr s H E).xe := passes_of rfl
end DL
set_option maxRecDepth 100000
set_option maxHeartbeats 4000000
namespace DL
open PySem PySem.Spec PyProof.Rows L2
@[reducible] def dNever : DS := fun _ _ _ => False
section
variable {X : Cx} {W : WX}
theorem sd_never {st : Stmt} : SDt X W st dNever := ⟨fun pins s σ H D I ⟨env, M, d, H0, so, S, h, k⟩ => h.elim⟩
end
theorem KvL.lk {K : PySem.W.Frag} {H : Hp} {k : Str} : ∀ {r : List (Str × V)} {s : List (Str × D)}, KvL K H r s → (s.lookup k = none ∧ r.lookup k = none) ∨ ∃ v d, s.lookup k = some d ∧ r.lookup k = some v ∧ Dn K H v d
  | _, _, .nil => .inl ⟨rfl, rfl⟩
  | _, _, .cons (k := k') (v := v) (d := d) a b => by
    rw [List.lookup_cons, List.lookup_cons]
    cases e : k == k' with
    | true => exact .inr ⟨v, d, rfl, rfl, a⟩
    | false => exact KvL.lk b
theorem KvL.of {K : PySem.W.Frag} {H : Hp} : ∀ {r : List (Str × V)} {ds : List D}, DnL K H (r.map (·.2)) ds → KvL K H r ((r.map (·.1)).zip ds)
  | [], _, h => by cases h; exact .nil
  | (k, v) :: r, _, h => by
    cases h with
    | cons a b => exact .cons a (KvL.of b)
theorem KvL.split {K : PySem.W.Frag} {H : Hp} : ∀ {r : List (Str × V)} {s : List (Str × D)}, KvL K H r s → r.map (·.1) = s.map (·.1) ∧ DnL K H (r.map (·.2)) (s.map (·.2))
  | _, _, .nil => ⟨rfl, .nil⟩
  | _, _, .cons (k := k) a b => by
    obtain ⟨h1, h2⟩ := KvL.split b
    exact ⟨by rw [List.map_cons, List.map_cons, h1], .cons a h2⟩
/-- its fields -/
def fsOf (M : Mem) (C : Addr) : D → Option (List (Str × D))
  | .ins C' ns vs => if C' = C then some (ns.zip vs) else none
  | .cel c => match M c with
    | some (.ob C' fs) => if C' = C then some fs else none
    | _ => none
  | _ => none
theorem SD.obj {K : PySem.W.Frag} {H0 H : Hp} {M : Mem} (S : SD K H0 H M) {v : V} {d : D} {C : Addr} {fs : List (Str × D)} (h : Dn K H0 v d) (e : fsOf M C d = some fs) : ∃ a dx fvs, v = .ref a ∧ H a = some (.ins C dx fvs) ∧ KvL K H0 fvs fs := by
  cases h with
  | @ins a C' dx fvs ds q r =>
    have e' : (if C' = C then some ((fvs.map (·.1)).zip ds) else none) = some fs := e
    by_cases c : C' = C
    · subst c; rw [if_pos rfl] at e'; cases e'
      exact ⟨a, dx, fvs, rfl, S.ex _ _ q, .of r⟩
    · rw [if_neg c] at e'; cases e'
  | cel a =>
    have e' : (match M a with | some (.ob C' fs) => if C' = C then some fs else none | _ => none) = some fs := e
    split at e'
    · rename_i C' fs' hm
      by_cases c : C' = C
      · subst c; rw [if_pos rfl] at e'; cases e'
        obtain ⟨_, dx, fvs, q, r⟩ := S.any a _ hm
        exact ⟨a, dx, fvs, rfl, q, r⟩
      · rw [if_neg c] at e'; cases e'
    · cases e'
  | _ => cases e
def putD (f : Str) (v : D) : List (Str × D) → List (Str × D)
  | [] => [(f, v)]
  | (g, x) :: r => if g = f then (g, v) :: r else (g, x) :: putD f v r
theorem KvL.putF {K : PySem.W.Frag} {H : Hp} {f : Str} {v : V} {d : D} (h : Dn K H v d) : ∀ {r : List (Str × V)} {s : List (Str × D)}, KvL K H r s → KvL K H (L2.putF f v r) (putD f d s)
  | _, _, .nil => .cons h .nil
  | _, _, .cons (k := g) a b => by
    unfold L2.putF putD
    by_cases e : g = f
    · rw [if_pos e, if_pos e]; exact .cons h b
    · rw [if_neg e, if_neg e]; exact .cons a (KvL.putF h b)
theorem KvL.len {α : Type} {K : PySem.W.Frag} {H : Hp} : ∀ {r : List (α × V)} {s : List (α × D)}, KvL K H r s → r.length = s.length
  | _, _, .nil => rfl
  | _, _, .cons _ b => congrArg (· + 1) (KvL.len b)
theorem SD.freezeO {K : PySem.W.Frag} {H0 H : Hp} {M : Mem} {c C : Addr} {fs : List (Str × D)} (S : SD K H0 H M) (h : M c = some (.ob C fs)) : ∃ o, H0 c = none ∧ SD K (upd H0 c o) H (mdel M c) ∧ Dn K (upd H0 c o) (.ref c) (.ins C (fs.map (·.1)) (fs.map (·.2))) := by
  obtain ⟨n0, dx, fvs, e1, r⟩ := S.any c _ h
  obtain ⟨en, er⟩ := r.split
  refine ⟨.ins C dx fvs, n0, ⟨fun a o q => ?_, fun b ys q => ?_⟩, ?_⟩
  · by_cases z : a = c
    · subst z; rw [upd_same] at q; cases q; exact e1
    · rw [upd_ne z] at q; exact S.ex a o q
  · unfold mdel at q
    by_cases z : b = c
    · rw [if_pos z] at q; cases q
    · rw [if_neg z] at q
      obtain ⟨n1, ok⟩ := S.any b ys q
      exact ⟨by rw [upd_ne z]; exact n1, ok.same (Ext.add n0) rfl⟩
  · rw [← en]
    exact .ins upd_same (er.mono (Ext.add n0))
section
variable {X : Cx} {W : WX}
@[reducible] def dFld (C : Addr) (f : Str) (de : DE) : DE := fun env M q E => de env M (fun o M1 => ∃ fs v, fsOf M1 C o = some fs ∧ fs.lookup f = some v ∧ q v M1) E
theorem pd_fld {e : Expr} {f : Str} {pos : Pos} {de : DE} {C : Addr} (he : PD X W e de) (c : Cls X.K C) (n : NoAttr X.K C f) (hb : attributeBase e f X.env (eval e X.env) = eval e X.env := by rfl) : PD X W (.Attribute e f pos) (dFld C f de) :=
  peImp (pe_fld he hb) fun σ H Q ⟨env, M, q, E, H0, so, S, h, k, kx⟩ => goE so S h kx fun x dx H1 H' M1 e1 so1 S1 rx ⟨fs, v, ef, el, w⟩ kx1 => by
    obtain ⟨a, d, fvs, rfl, q1, r⟩ := S1.obj rx ef
    rcases r.lk (k := f) with ⟨z, _⟩ | ⟨v', d', z, z2, rv⟩
    · rw [el] at z; cases z
    · rw [el] at z; cases z
      exact ⟨a, C, d, fvs, v', rfl, q1, c, n, z2, k _ _ H1 _ _ e1 S1 rv w⟩
@[reducible] def dFSet (C : Addr) (f : Str) (do_ dv : DE) : DS := fun d env M => dv env M (fun v M1 => do_ env M1 (fun o M2 => ∃ c fs, o = .cel c ∧ M2 c = some (.ob C fs) ∧ fs.length < 1000 ∧ d.nx env (mset M2 c (.ob C (putD f v fs)))) (d.ex env)) (d.ex env)
theorem sd_fset {o value : Expr} {f : Str} {pos pos' : Pos} {do_ dv : DE} {C : Addr} (ho : PD X W o do_) (c : Cls X.K C) (n : NoAttr X.K C f) (hv : PD X W value dv) (hs : swapsWith value (some (.Attribute o f pos')) pos.line X.env = pure false := by rfl) : SDt X W (.Assign [.Attribute o f pos'] value pos) (dFSet C f do_ dv) :=
  psImp (ps_fld ho hv hs) fun D σ H ⟨env, M, d, H0, so, S, h, k⟩ => goE so S h (k.ex.at so) fun x dx H1 H' M1 e1 so1 S1 rx h1 kx1 => goE so1 S1 h1 kx1 fun y dy H2 H'' M2 e2 so2 S2 ry ⟨p, fs, ec, em, hl, w⟩ kx2 => by
    subst ec
    cases ry
    obtain ⟨n0, d', fvs, q, r⟩ := S2.any p _ em
    exact ⟨p, C, d', fvs, rfl, q, c, n, by rw [r.len]; exact hl, k.nx _ _ H2 _ _ (e1.trans e2) so2 (S2.put (x := .ob C (putD f dx fs)) n0 fun _ e => ⟨d', _, e, r.putF (rx.mono e2)⟩) w⟩
/-- a method that may be called -/
def Mok (P : Program) (w : World) (K : PySem.W.Frag) (mg : Str → Option Value) (base : Heap) (C : Addr) (m : Str) (k n : Nat) (sd : SpD) : Prop :=
  Cls K C ∧ ∃ (f : Addr) (fd : FuncData) (ps : List Str), Meth K C m f ∧ PySem.W.fnIn K f = true ∧ Binds K fd ps [] ∧ FnOk P w K mg base (L2.CX P w) k f fd ps (spOf K n sd)
@[reducible] def dMeth (C : Addr) (m : Str) (n : Nat) (sd : SpD) (do_ : DE) (da : DA) : DE := fun env M q E => do_ env M (fun o M1 => ∃ fs, fsOf M1 C o = some fs ∧ fs.lookup m = none ∧ da env M1 (fun ds M2 => ds.length + 1 = n ∧ sd (o :: ds) M2 q E) E) E
theorem KvL.no {K : PySem.W.Frag} {H : Hp} {k : Str} {r : List (Str × V)} {s : List (Str × D)} (b : KvL K H r s) (h : s.lookup k = none) : r.lookup k = none := by
  rcases b.lk (k := k) with ⟨_, z⟩ | ⟨v, d, z, _, _⟩
  · exact z
  · rw [h] at z; cases z
theorem pd_meth {k n : Nat} {C : Addr} {m : Str} {sd : SpD} {o e : Expr} {es : List Expr} {do_ : DE} {da : DA} {apos pos : Pos} {pl : Sem Bool} (F : Mok X.prog X.w X.K X.mg X.base C m k n sd) (hr : Room k X.A) (tk : Takes X W) (ho : PD X W o do_) (ha : AD X W (e :: es) da)
    (hst : starEach (e :: es) X.env = (false, eval e X.env) :: starEach es X.env := by rfl) (hpl : (backTo pos (starEach es X.env)).any (·.1) = false := by rfl)
    (ht : eval (.Call (.Attribute o m apos) (e :: es) [] pos) X.env = (do
      let ov ← eval o X.env
      standAt apos.atName
      let (f, first) ← holding [ov] (getMethod ov m pl)
      callWith pos f first (backTo pos (starEach (e :: es) X.env)) (backToKw pos (keywordEach [] X.env))) := by rfl) : PD X W (.Call (.Attribute o m apos) (e :: es) [] pos) (dMeth C m n sd do_ da) := by
  obtain ⟨c, f, fd, ps, hm, _, hb, F⟩ := F
  constructor
  intro pins s σ H Q I ⟨env, M, q, E, H0, so, S, h, kq, kx⟩
  refine PySem.W.methodCall_KW (pl := pl) (wpAny_mono (PE.run ho pins s σ H (fun x H1 => ∃ a dx fs, x = .ref a ∧ H1 a = some (.ins C dx fs) ∧ fs.lookup m = none ∧ liftA X.K W da σ H1 fun vs H2 => spOf X.K n sd (x :: vs) H2 Q (WE W σ)) I
    (goE so S h kx fun x dx H1 H' M1 e1 so1 S1 rx ⟨fs, ef, el, w⟩ kx1 => ?_)) (fun u s1 ⟨x, H1, I1, rx, a, dx, fs, ex, ea, l, q1⟩ => ?_) fun _ _ z => z) ht
  · obtain ⟨a, dd, fvs, rfl, q1, r⟩ := S1.obj rx ef
    exact ⟨a, dd, fvs, rfl, q1, r.no el, goA so1 S1 w kx1 fun vs ds H2 H'' M2 e2 so2 S2 rs ⟨hl, w2⟩ kx2 => ⟨dx :: ds, M2, q, E, H2, hl, .cons (rx.mono e2) rs, S2, w2, kq.mono (e1.trans e2), kx2⟩⟩
  · subst ex
    obtain rfl : u = Value.ref a := rx
    refine getmeth_ok I1 ea c hm l ?_
    refine PySem.W.callWith_K (first := [.ref a]) (h₀ := X.base) I.ok.mod.kin hm.kp (wpAny_mono (PA.run (t := liftA X.K W da) ha pos pins s1 σ H1 _ I1 q1) (fun us s2 ⟨vs, H2, I2, r, q2⟩ => ⟨I2.kIn, ?_⟩) fun _ _ z => z) hst hpl
    exact run_fnSD (E := WE W) (us := .ref a :: us) (vs := .ref a :: vs) F hr hb .nil (passAt tk σ) I2 (.cons rfl r) (by rw [List.append_nil]; exact q2)
/-- C(e, ..), an object that changes no more behind its __init__ -/
def Kok (P : Program) (w : World) (K : PySem.W.Frag) (mg : Str → Option Value) (base : Heap) (x : Str) (C : Addr) (k n : Nat) (sd : SpD) : Prop :=
  ∃ (f : Addr) (fd : FuncData) (ps : List Str), mg x = some (.ref C) ∧ Mk K C f ∧ Binds K fd ps [] ∧ FnOk P w K mg base (L2.CX P w) k f fd ps (spOf K n sd)
@[reducible] def dMake (C : Addr) (n : Nat) (sd : SpD) (da : DA) : DE := fun env M q E => da env M (fun ds M1 => ds.length + 1 = n ∧ ∀ c, M1 c = none → sd (.cel c :: ds) (mset M1 c (.ob C [])) (fun v M2 => v = .non ∧ ∃ fs, M2 c = some (.ob C fs) ∧ q (.ins C (fs.map (·.1)) (fs.map (·.2))) (mdel M2 c)) E) E
theorem made_D {K : PySem.W.Frag} {H0 H : Hp} {M : Mem} {x dx C : Addr} (S : SD K H0 H M) (hx : H x = none) (hd : H dx = none) (ne : dx ≠ x) : SD K H0 (upd (upd H dx (.own x)) x (.ins C dx [])) (mset M x (.ob C [])) := by
  have S1 : SD K H0 (upd H dx (.own x)) M := S.aside hd
  exact S1.put (S.fresh hx).1 fun _ e => ⟨dx, [], e, .nil⟩
theorem run_makeD {k n : Nat} {C f : Addr} {fd : FuncData} {ps : List Str} {sd : SpD} {pins : List (Addr × Obj)} {σ : L2.St} {H : Hp} {s : Shared} {Q : VK} {us : List Value} {vs : List V} (Mm : Mk X.K C f) (F : FnOk X.prog X.w X.K X.mg X.base (L2.CX X.prog X.w) k f fd ps (spOf X.K n sd))
    (hr : Room (k + 1) X.A) (hb : Binds X.K fd ps []) (tk : Takes X W) (I : Inv X pins σ H s) (r : Vals vs us)
    (h : ∀ x dx, H x = none → H dx = none → dx ≠ x → spOf X.K n sd (.ref x :: vs) (upd (upd H dx (.own x)) x (.ins C dx [])) (fun v H2 => v = .non ∧ Q (.ref x) H2) (WE W σ)) :
    wpAny (model X.prog X.w) X.A (call (.ref C) us) (EP X pins σ Q) X.xe s := by
  have hq := h (s.heap.objs.size + 1) s.heap.objs.size (I.hok.fresh (Nat.le_succ _)) (I.hok.fresh (Nat.le_refl _)) (Nat.ne_of_lt (Nat.lt_succ_self _))
  have I2 := Inv.made (C := C) I
  have r2 : Vals (V.ref (s.heap.objs.size + 1) :: vs) (Value.ref (s.heap.objs.size + 1) :: us) := .cons rfl r
  have hl : (Value.ref (s.heap.objs.size + 1) :: us ++ []).length = ps.length := by
    rw [List.append_nil]
    have e := r2.length
    rw [F.len _ _ _ _ hq] at e
    exact e.symm
  have hbb := hb _ (Value.ref (s.heap.objs.size + 1) :: us) I2.kIn hl
  rw [List.append_nil] at hbb
  refine wpAny_call (make_map (f := f) I.kIn Mm.makes Mm.init (beq_iff_eq.mp Mm.fn) (codeAny_mono (F.run _ X.stack _ _ ⟨Value.ref (s.heap.objs.size + 1) :: us, []⟩ (Value.ref (s.heap.objs.size + 1) :: us) _ _ (WE W σ) (hr.make C us [])
    (I2.env0.make C us []) hbb r2 hq) fun r s' hq' => ?_))
  cases r with
  | error e => exact passAt tk σ pins _ _ e s' I2 hq'
  | ok fl =>
    cases fl with
    | ret u =>
      obtain ⟨v, H', I3, rv, ev, q3⟩ := I2.after hq'
      subst ev
      exact ⟨rv, ⟨V.ref (s.heap.objs.size + 1), H', I3, rfl, q3⟩⟩
    | next => exact False.elim hq'
    | brk => exact False.elim hq'
    | cont => exact False.elim hq'
theorem pd_make {k n : Nat} {C : Addr} {x : Str} {sd : SpD} {e : Expr} {es : List Expr} {da : DA} {p pos : Pos} (F : Kok X.prog X.w X.K X.mg X.base x C k n sd) (hr : Room (k + 1) X.A) (tk : Takes X W) (ha : AD X W (e :: es) da) (hg : Gl X x := by rfl)
    (hdb : (x == ("__debug__" : Str)) = false := by decide) (he : starEach (e :: es) X.env = (false, eval e X.env) :: starEach es X.env := by rfl) (hpl : (backTo pos (starEach es X.env)).any (·.1) = false := by rfl) : PD X W (.Call (.Name x p) (e :: es) [] pos) (dMake C n sd da) := by
  obtain ⟨f, fd, ps, hm, Mm, hb, F⟩ := F
  constructor
  intro pins s σ H Q I ⟨env, M, q, E, H0, so, S, h, kq, kx⟩
  refine wpAny_Call_Name_kw (ld_glob I hg hm ?_ hdb)
  refine PySem.W.callWith_K (h₀ := X.base) I.ok.mod.kin Mm.kp (wpAny_mono (PA.run ha pos pins s σ H (fun vs H1 => ∀ x dx, H1 x = none → H1 dx = none → dx ≠ x → spOf X.K n sd (.ref x :: vs) (upd (upd H1 dx (.own x)) x (.ins C dx [])) (fun v H2 => v = .non ∧ Q (.ref x) H2) (WE W σ)) I
    (goA so S h kx fun vs ds H1 H' M1 e1 so1 S1 rs ⟨hl, w⟩ kx1 x dx hx hd ne => ?_)) (fun us s1 ⟨vs, H1, I1, r, q1⟩ => ⟨I1.kIn, run_makeD Mm F hr hb tk I1 r q1⟩) fun _ _ z => z) he hpl
  refine ⟨.cel x :: ds, _, _, E, H1, hl, .cons (.cel x) rs, made_D S1 hx hd ne, w x (S1.fresh hx).2, fun v d H2 H2' M2 e2 S2 rv ⟨ev, fs, em, z⟩ => ?_, kx1⟩
  subst ev
  refine ⟨rv.inv_non, ?_⟩
  obtain ⟨o, n0, S3, r3⟩ := S2.freezeO em
  exact kq _ _ _ H2' _ ((e1.trans e2).trans (Ext.add n0)) S3 r3 z
def KD (X : Cx) (W : WX) (kws : List Keyword) (da : DA) : Prop := PK X kws (liftA X.K W da)
theorem pkImp {kws : List Keyword} {t t' : TA} (h : PK X kws t) (i : ∀ σ H Q, t' σ H Q → t σ H Q) : PK X kws t' := ⟨fun pos pins s σ H Q I q => h.run pos pins s σ H Q I (i σ H Q q)⟩
theorem kd_nil : KD X W [] dNil := pkImp pk_nil fun σ H Q ⟨env, M, q, E, H0, so, S, h, k, kx⟩ => k [] [] H0 H M (Ext.refl H0) S .nil h
theorem kd_cons {nm : Option Str} {e : Expr} {kpos : Pos} {kws : List Keyword} {de : DE} {da : DA} (he : PD X W e de) (hr : KD X W kws da) : KD X W (⟨nm, e, kpos⟩ :: kws) (dCons de da) :=
  pkImp (pk_cons he hr) fun σ H Q ⟨env, M, q, E, H0, so, S, h, k, kx⟩ =>
    goE so S h kx fun x dx H1 H' M1 e1 so1 S1 rx h1 kx1 => goA so1 S1 h1 kx1 fun xs ds H2 H'' M2 e2 so2 S2 rs h2 kx2 => k _ _ H2 H'' M2 (e1.trans e2) S2 (.cons (rx.mono e2) rs) h2
@[reducible] def dPar2 (i j : Nat) (da : DA) : DS := fun d env M => da env M (fun ds M1 => ∃ a b, ds = [a, b] ∧ d.nx ((env.set i (some a)).set j (some b)) M1) (d.ex env)
theorem sd_par2 (i j : Nat) {x y : Str} {a b : Expr} {da : DA} {px py pt pos : Pos} {kt k2 pt2} (hc : X.calm = true) (hN : X.N.Nodup) (ha : AD X W [a, b] da) (hi : X.N[i]? = some x := by rfl) (hj : X.N[j]? = some y := by rfl) (hij : i ≠ j := by decide)
    (hx : X.env.scope.names.lookup x = some .local := by rfl) (hy : X.env.scope.names.lookup y = some .local := by rfl)
    (hw : swappedStores [.Tuple [.Name x px, .Name y py] kt pt] (.Tuple [a, b] k2 pt2) X.env = pure (some [x, y]) := by rfl)
    (hs : swapsWithSole [.Tuple [.Name x px, .Name y py] kt pt] (.Tuple [a, b] k2 pt2) pos.line X.env = pure false := by rfl) :
    SDt X W (.Assign [.Tuple [.Name x px, .Name y py] kt pt] (.Tuple [a, b] k2 pt2) pos) (dPar2 i j da) :=
  psImp (ps_par hc hN hi hj hij hx hy ha hw hs) fun D σ H ⟨env, M, d, H0, so, S, h, k⟩ => goA so S h (k.ex.at so) fun vs ds H1 H' M1 e1 so1 S1 rs ⟨a, b, ed, w⟩ kx1 => by
    subst ed
    obtain ⟨v, u, rfl, rv, ru⟩ := dnl2 rs
    exact ⟨v, u, rfl, k.nx _ _ H1 H' M1 e1 ((so1.set i rv).set j ru) S1 w⟩
@[reducible] def dPar3 (i j l : Nat) (da : DA) : DS := fun d env M => da env M (fun ds M1 => ∃ a b c, ds = [a, b, c] ∧ d.nx (((env.set i (some a)).set j (some b)).set l (some c)) M1) (d.ex env)
theorem sd_par3 (i j l : Nat) {x y z : Str} {a b c : Expr} {da : DA} {px py pz pt pos : Pos} {kt k2 pt2} (hc : X.calm = true) (hN : X.N.Nodup) (ha : AD X W [a, b, c] da) (hi : X.N[i]? = some x := by rfl) (hj : X.N[j]? = some y := by rfl) (hl : X.N[l]? = some z := by rfl) (hij : i ≠ j := by decide) (hil : i ≠ l := by decide) (hjl : j ≠ l := by decide)
    (hx : X.env.scope.names.lookup x = some .local := by rfl) (hy : X.env.scope.names.lookup y = some .local := by rfl) (hz : X.env.scope.names.lookup z = some .local := by rfl)
    (hw : swappedStores [.Tuple [.Name x px, .Name y py, .Name z pz] kt pt] (.Tuple [a, b, c] k2 pt2) X.env = pure (some [x, y, z]) := by rfl)
    (hs : swapsWithSole [.Tuple [.Name x px, .Name y py, .Name z pz] kt pt] (.Tuple [a, b, c] k2 pt2) pos.line X.env = pure false := by rfl) :
    SDt X W (.Assign [.Tuple [.Name x px, .Name y py, .Name z pz] kt pt] (.Tuple [a, b, c] k2 pt2) pos) (dPar3 i j l da) :=
  psImp (ps_par3 hc hN hi hj hl hij hil hjl hx hy hz ha hw hs) fun D σ H ⟨env, M, d, H0, so, S, h, k⟩ => goA so S h (k.ex.at so) fun vs ds H1 H' M1 e1 so1 S1 rs ⟨a, b, c, ed, w⟩ kx1 => by
    subst ed
    cases rs with
    | cons rv rr =>
      obtain ⟨v, u, rfl, rw', ru⟩ := dnl2 rr
      exact ⟨_, v, u, rfl, k.nx _ _ H1 H' M1 e1 (((so1.set i rv).set j rw').set l ru) S1 w⟩
end
end DL
set_option maxRecDepth 100000
set_option maxHeartbeats 4000000
namespace DL
open PySem PySem.Spec PyProof.Rows L2 PySem.W RZ
theorem meets_enumT (l : Addr) (items : Array Value) (n : Nat) (dct : Option Addr) (sl : Array (Option Value)) :
    Meets (Builtin.«enumerate.__new__» ⟨[.type "enumerate", .ref l], []⟩) (fun _ R s => s.heap.get? l = some ⟨.type "tuple", dct, .seq items n, sl⟩ ∧
      R (.ok (.ret (.ref (s.heap.push { cls := .type "tuple_iterator", data := .fields #[.ref l, .int 0 0] }).objs.size)))
        { s with heap := (s.heap.push { cls := .type "tuple_iterator", data := .fields #[.ref l, .int 0 0] }).push { cls := .type "enumerate", data := .fields #[.none, .bool false, .ref s.heap.objs.size, rawInt 0, .none, .none] } }) :=
  .of_wp fun prog w A R s h => by
    obtain ⟨hp, g, d, tk, os⟩ := s
    obtain ⟨h1, h⟩ := h
    have hsub := sub_enumerate
    have q1 : ∀ {A' : Around} {E : Value → Shared → Prop} {Q : Value → Shared → Prop}, Q (.ref hp.objs.size) ⟨hp.push { cls := .type "tuple_iterator", data := .fields #[.ref l, .int 0 0] }, g, d, tk, os⟩ → wpAny (model prog w) A' (pyIter (.ref l)) Q E ⟨hp, g, d, tk, os⟩ :=
      fun q => wpAny_pyIter_tuple (s := ⟨hp, g, d, tk, os⟩) (show hp.IsTuple l items from ⟨_, h1, rfl, n, rfl⟩) q
    wp_walk using q1
    refine wpAny_stack_any fun st => wpAny_pure ?_
    split
    · rename_i c _ _ _ _ _
      cases (c == Value.type "enumerate")
      · wp_walk using q1
        exact ⟨_, rfl, h⟩
      · wp_walk using q1
        exact ⟨_, rfl, h⟩
    · wp_walk using q1
      exact ⟨_, rfl, h⟩
section
variable {prog : Program} {w : World} {A : Around} {E : Value → Shared → Prop} {s : Shared}
theorem call_enumT {l : Addr} {items : Array Value} {Q : Value → Shared → Prop} (hL : s.heap.IsTuple l items)
    (h : ∀ h', IsEnum h' (s.heap.objs.size + 1) s.heap.objs.size 0 .none → h'.IsTupleIter s.heap.objs.size l 0 → h'.objs.size = s.heap.objs.size + 2 →
      (∀ b o, s.heap.get? b = some o → h'.get? b = some o) → Q (.ref (s.heap.objs.size + 1)) { s with heap := h' }) :
    wpAny (model prog w) A (call (.type "enumerate") [.ref l]) Q E s := by
  obtain ⟨⟨c, dct, dt, sl⟩, hl, hc, n, hd⟩ := hL
  replace hc : c = .type "tuple" := hc
  replace hd : dt = .seq items n := hd
  subst hc hd
  refine callType_new F.called_enumerate (by decide) (F.typeCall_enumerate_1 _) (F.newCall_enumerate_1 _) (fun obj => F.args_object_init_2 obj _) F.entry_enumerate_new
    (meets_enumT l items n dct sl) ⟨hl, ?_⟩
  have hz : (s.heap.push { cls := .type "tuple_iterator", data := .fields #[.ref l, .int 0 0] }).objs.size = s.heap.objs.size + 1 := Heap.size_push ..
  show _ ∧ _
  rw [hz]
  have he : IsEnum ((s.heap.push { cls := .type "tuple_iterator", data := .fields #[.ref l, .int 0 0] }).push
      { cls := .type "enumerate", data := .fields #[.none, .bool false, .ref s.heap.objs.size, rawInt 0, .none, .none] }) (s.heap.objs.size + 1) s.heap.objs.size 0 .none := by
    have := Heap.get?_push_size (s.heap.push { cls := .type "tuple_iterator", data := .fields #[.ref l, .int 0 0] })
      (o := { cls := .type "enumerate", data := .fields #[.none, .bool false, .ref s.heap.objs.size, rawInt 0, .none, .none] }) rfl
    rw [hz] at this; exact this
  refine ⟨⟨_, he, rfl⟩, h _ he ⟨_, Heap.get?_push_of_some _ (Heap.get?_push_size _ rfl), rfl, rfl⟩ (by rw [Heap.size_push, hz]) fun b o x => Heap.get?_push_of_some _ (Heap.get?_push_of_some _ x)⟩
theorem enumT_end {e it l : Addr} {i : Nat} {items : Array Value} {old : Value} {Q : Option Value → Shared → Prop} (hh : A.handled = none) (he : IsEnum s.heap e it i old) (hit : s.heap.IsTupleIter it l i) (hl : s.heap.IsTuple l items) (hx : items[i]? = none)
    (hQ : ∀ h', Heap.ExtBut it s.heap h' → Q none { s with heap := h' }) : wpAny (model prog w) A (pyNext (.ref e)) Q E s := by
  have hT : s.TypeIs (.ref e) "enumerate" := ⟨_, he, rfl⟩
  unfold pyNext
  refine wpAny_bind (wpAny_attempt (wpAny_callSpecial?_slot (name := Str.ofString "__next__") hT F.slot_enumerate_next
    (wpAny_call_entry F.slot_enumerate_next hT F.entry_enumerate_next ?_ (F.args_enumerate_next_1 _))))
  show wpAny _ _ (field (.ref e) 2 >>= _) _ _ _
  refine wpAny_bind (wpAny_field he rfl (x := .ref it) rfl ?_)
  refine wpAny_bind (wpAny_nextOf_tuple_end (show A.in1.handled = none from hh) hit hl hx fun h' x he' hx' => ?_)
  obtain ⟨o, ho, hc⟩ := hx'
  refine wpAny_bind (wpAny_isInstance (T := "StopIteration") (b := true) ⟨o, ho, hc⟩ isSubtype_stop ?_)
  exact wpAny_pure (hQ _ he')
end
def IteT (K : PySem.W.Frag) (a : Addr) : It :=
  ⟨fun i H => ∃ (xs : List V) (x : V), SqT K H a xs ∧ xs[i]? = some x, fun i H v H' => ∃ T x, v = .ref T ∧ H T = none ∧ H' = upd H T (.tup [.int (i : Nat), x]) ∧ ∀ xs, SqT K H a xs → xs[i]? = some x, fun i H => ∃ xs : List V, SqT K H a xs ∧ xs.length ≤ i⟩
theorem turn_enumT {P : Program} {w : World} {K : PySem.W.Frag} {elts : List Expr} {kk : Nat} {tpos : Pos} (a e it : Addr) :
    Turn P w K (.Tuple elts kk tpos) (IteT K a) [e, it] e (fun i h => (∃ old, IsEnum h e it ((i : Nat) : Int) old) ∧ h.IsTupleIter it a i ∧ e ≠ it ∧ a ≠ it ∧ a ≠ e) where
  mem := by simp
  obj := fun i h st b hb => by
    obtain ⟨⟨old, he⟩, ⟨o, ho, hc, hd⟩, _⟩ := st
    have e' : b = e ∨ b = it := by simpa using hb
    rcases e' with z | z
    · rw [z]; exact ⟨_, he, fun v q => nomatch q⟩
    · rw [z]; exact ⟨o, ho, fun v q => by rw [hd] at q; cases q⟩
  keep := fun i h h' st k => let ⟨⟨old, he⟩, hi, hne⟩ := st; ⟨⟨old, k e (by simp) _ he⟩, hi.at fun o q => k it (by simp) o q, hne⟩
  item := by
    intro X hP hw hK hc i pins s σ H E I hf st hg
    subst hP hw hK
    obtain ⟨⟨old, he⟩, hit, hne, hai, hae⟩ := st
    obtain ⟨xs, x, hq, hx⟩ := hg
    obtain ⟨its, rv, p, hz⟩ := I.tuple hq
    obtain ⟨u, hu, ru⟩ := rv.get hx
    have hel : e < s.heap.objs.size := Heap.lt_size he
    have hil : it < s.heap.objs.size := by obtain ⟨_, q, _⟩ := hit; exact Heap.lt_size q
    have D := Draws.tuple (prog := X.prog) (w := X.w) (A := X.A.in1) (show X.A.in1.handled = none from I.ok.hd hc) it a hai its.toArray
    have hlt : i < its.toArray.size := by
      have := List.getElem?_eq_some_iff.mp hu
      obtain ⟨q, _⟩ := this
      simpa using q
    refine wpAny_pyNext_enum_itemD D he ⟨hit, show s.heap.IsTuple a its.toArray from p⟩ hlt hne (by simp [hne, Ne.symm hae]) fun y h' tk hy ho st' hT hsz hk => ?_
    have ey : y = u := by
      have : some y = some u := by rw [← hy]; simpa using hu
      exact Option.some.inj this
    subst ey
    refine ⟨_, rfl, wpAny_letOwnedTupleGo_enum (s := { s with heap := h', toks := tk + 1 }) ho fun h'' he' sb => ?_⟩
    have hT2 : h''.get? s.heap.objs.size = some { cls := .type "tuple", data := .seq #[.int i tk, y] } := (sb.2 _ (Nat.ne_of_gt hel)).trans hT
    have new : ObjOk X.prog X.w (upd H s.heap.objs.size (.tup [.int (i : Nat), x])) h'' s.heap.objs.size (.tup [.int (i : Nat), x]) :=
      ⟨by show 2 ≤ sizeLine; decide, [.int i tk, y], .cons ⟨_, rfl⟩ (.cons ru .nil), ⟨_, hT2, rfl, _, rfl⟩⟩
    have I1 : Inv X pins σ (upd H s.heap.objs.size (.tup [.int (i : Nat), x])) { s with heap := h'', toks := tk + 1 } :=
      I.turnedNew (ch := [e, it]) (fun b ob hb q => (sb.2 b (fun z => hb (by simp [z]))).trans (hk b ob (fun z => hb (by simp [z])) (fun z => hb (by simp [z])) q)) hf (Nat.le_refl _) new
    refine ⟨.ref s.heap.objs.size, _, I1, rfl, ⟨_, x, rfl, I.hok.fresh (Nat.le_refl _), rfl, fun ys hy => by rw [I.tuple_inj hy hq]; exact hx⟩, ⟨⟨y, ?_⟩, st'.1.at fun o q => (sb.2 it (Ne.symm hne)).trans q, hne, hai, hae⟩, fun b hb => ?_⟩
    · have e1 : ((i + 1 : Nat) : Int) = (i : Int) + 1 := by omega
      rw [e1]; exact he'
    · have hb' : b < s.heap.objs.size := by
        have e' : b = e ∨ b = it := by simpa using hb
        rcases e' with z | z
        · rw [z]; exact hel
        · rw [z]; exact hil
      rw [upd_ne (Nat.ne_of_lt hb')]
      exact (hf b hb).1
  done := by
    intro X hP hw hK hc i pins s σ H E I hf st hg
    subst hP hw hK
    obtain ⟨⟨old, he⟩, hit, hne, hai, hae⟩ := st
    obtain ⟨xs, hq, hx⟩ := hg
    obtain ⟨its, rv, p, hz⟩ := I.tuple hq
    obtain ⟨f0, f1, f2, f3, f4, f5⟩ := hf it (by simp)
    have hl := rv.length
    exact enumT_end (I.ok.hd hc) he hit (show s.heap.IsTuple a its.toArray from p) (by simp; omega) fun h' eb => ⟨rfl, I.turned (t' := s.toks) (fun b o hb q => eb b o hb q) f0 f1 f3 f4 f5⟩
  self := fun A i s Q E st h => let ⟨⟨_, he⟩, _⟩ := st; wpAny_pyIter_enum he h
/-- enumerate of a list or a tuple -/
def iEnumA (K : PySem.W.Frag) (ta : TA) : TI := fun σ H R => ta σ H fun vs H1 => ∃ a xs, vs = [.ref a] ∧ ((SqL K H1 a xs ∧ R (Ite K a) H1) ∨ (SqT K H1 a xs ∧ R (IteT K a) H1))
theorem pi_enumA {X : Cx} {e : Expr} {ta : TA} {p pos tpos : Pos} {elts : List Expr} {kk : Nat} (hg : Gl X "enumerate") (hm : X.mg "enumerate" = none) (ha : PA X [e] ta) (hs : starEach [e] X.env = [(false, eval e X.env)] := by rfl) :
    PI X (.Tuple elts kk tpos) (.Call (.Name "enumerate" p) [e] [] pos) (iEnumA X.K ta) := by
  refine ⟨fun pins s σ H R I h => ?_⟩
  refine Call_ (ld_blt I hg hm boot_enumerate (PyProof.Rows.callWith_type1 (thn (ha.run pos pins s σ H _ I h) fun us s1 ⟨vs, H1, I1, r1, q1⟩ => ?_) hs rfl))
  obtain ⟨a, xs, ex, q1⟩ := q1
  subst ex
  cases r1 with
  | cons r rr =>
    cases rr
    cases r
    have fr2 : ∀ b ∈ [s1.heap.objs.size + 1, s1.heap.objs.size], FpOk X pins H1 b := fun b hb => by
      have e' : b = s1.heap.objs.size + 1 ∨ b = s1.heap.objs.size := by simpa using hb
      have hle : s1.heap.objs.size ≤ b := by
        rcases e' with z | z
        · rw [z]; exact Nat.le_add_right _ _
        · rw [z]; exact Nat.le_refl _
      exact I1.fpOk hle (I1.hok.fresh hle)
    rcases q1 with ⟨hq, q⟩ | ⟨hq, q⟩
    · obtain ⟨its, rv, p', hz⟩ := I1.list hq
      refine call_enumerate_list p'.isList fun h' he hit hsz hk => wpAny_pyIter_enum he ?_
      have I2 : Inv X pins σ H1 { s1 with heap := h' } := I1.kept (t' := s1.toks) hk
      exact ⟨s1.heap.objs.size + 1, [s1.heap.objs.size + 1, s1.heap.objs.size], _, _, H1, rfl, I2, turn_enum a (s1.heap.objs.size + 1) s1.heap.objs.size, ⟨⟨.none, he⟩, hit, Nat.succ_ne_self _⟩, fr2, q⟩
    · obtain ⟨its, rv, p', hz⟩ := I1.tuple hq
      have hlt : a < s1.heap.objs.size := by obtain ⟨o, ho, _⟩ := id p'; exact Heap.lt_size ho
      refine call_enumT (show s1.heap.IsTuple a its.toArray from p') fun h' he hit hsz hk => wpAny_pyIter_enum he ?_
      have I2 : Inv X pins σ H1 { s1 with heap := h' } := I1.kept (t' := s1.toks) hk
      exact ⟨s1.heap.objs.size + 1, [s1.heap.objs.size + 1, s1.heap.objs.size], _, _, H1, rfl, I2, turn_enumT a (s1.heap.objs.size + 1) s1.heap.objs.size, ⟨⟨.none, he⟩, hit, Nat.succ_ne_self _, Nat.ne_of_lt hlt, Nat.ne_of_lt (Nat.lt_succ_of_lt hlt)⟩, fr2, q⟩
/-- pairs made anew at each turn -/
theorem mk_pair {K : PySem.W.Frag} {H0 H : Hp} {M : Mem} {T : Addr} {x y : V} {dx dy : D} (S : SD K H0 H M) (hT : H T = none) (rx : Dn K H0 x dx) (ry : Dn K H0 y dy) : ∃ H2, Ext H0 H2 ∧ SD K H2 (upd H T (.tup [x, y])) M ∧ Dn K H2 (.ref T) (.tup [dx, dy]) :=
  ⟨_, Ext.add (S.fresh hT).1, S.new hT, .tup (SqT.of upd_same) (.cons (rx.mono (Ext.add (S.fresh hT).1)) (.cons (ry.mono (Ext.add (S.fresh hT).1)) .nil))⟩
def enumD (xs : List D) : List D := (rngD 0 xs.length).zipWith (fun i x => .tup [i, x]) xs
theorem enumD_get {xs : List D} {i : Nat} {d : D} (h : (enumD xs)[i]? = some d) : ∃ x, xs[i]? = some x ∧ d = .tup [.int (i : Nat), x] := by
  unfold enumD rngD at h
  rw [List.getElem?_zipWith] at h
  cases hx : xs[i]? with
  | none => rw [hx] at h; simp at h
  | some x =>
    rw [hx] at h
    have hi := (List.getElem?_eq_some_iff.mp hx).1
    simp [List.getElem?_range hi] at h
    exact ⟨x, rfl, h.symm⟩
theorem enumD_len {xs : List D} : (enumD xs).length = xs.length := by
  unfold enumD rngD
  simp
theorem ite_ok {K : PySem.W.Frag} {H0 : Hp} {a : Addr} {d : D} {xs : List D} (hl : ∀ H0' H M, Ext H0 H0' → SD K H0' H M → seqOf M d = some xs → ∃ vs, SqL K H a vs ∧ DnL K H0' vs xs) : ItOk K H0 (Ite K a) (enumD xs) (fun M => seqOf M d = some xs) where
  go := fun H0' H M i y e S ok hi => by
    obtain ⟨x, hx, rfl⟩ := enumD_get hi
    obtain ⟨vs, hs, r⟩ := hl H0' H M e S ok
    obtain ⟨v, hv, rv⟩ := r.get hx
    exact ⟨⟨vs, v, hs, hv⟩, fun z H' ⟨T, u, e1, hT, e2, e3⟩ => by
      subst e1 e2
      have := e3 vs hs
      rw [hv] at this
      cases this
      exact mk_pair S hT (.int _) rv⟩
  stop := fun H0' H M i e S ok hi => by
    obtain ⟨vs, hs, r⟩ := hl H0' H M e S ok
    exact ⟨vs, hs, by rw [r.length]; rw [enumD_len] at hi; exact hi⟩
theorem iteT_ok {K : PySem.W.Frag} {H0 : Hp} {a : Addr} {xs : List D} {vs : List V} (h : SqT K H0 a vs) (r : DnL K H0 vs xs) (ok : Mem → Prop) : ItOk K H0 (IteT K a) (enumD xs) ok where
  go := fun H0' H M i y e S _ hi => by
    obtain ⟨x, hx, rfl⟩ := enumD_get hi
    obtain ⟨v, hv, rv⟩ := r.get hx
    have hs : SqT K H a vs := (e.trans S.ex).sqT h
    exact ⟨⟨vs, v, hs, hv⟩, fun z H' ⟨T, u, e1, hT, e2, e3⟩ => by
      subst e1 e2
      have := e3 vs hs
      rw [hv] at this
      cases this
      exact mk_pair S hT (.int _) (rv.mono e)⟩
  stop := fun H0' H M i e S _ hi => ⟨vs, (e.trans S.ex).sqT h, by rw [r.length]; rw [enumD_len] at hi; exact hi⟩
section
variable {X : Cx} {W : WX}
@[reducible] def dEnum (da : DA) : DI := fun env M q E => da env M (fun ds M1 => ∃ d xs, ds = [d] ∧ seqOf M1 d = some xs ∧ q (enumD xs) (fun M' => seqOf M' d = some xs) M1) E
theorem id_enum {e : Expr} {da : DA} {p pos tpos : Pos} {elts : List Expr} {kk : Nat} (hg : Gl X "enumerate") (hm : X.mg "enumerate" = none) (ha : AD X W [e] da) (hs : starEach [e] X.env = [(false, eval e X.env)] := by rfl) : ID X W (.Tuple elts kk tpos) (.Call (.Name "enumerate" p) [e] [] pos) (dEnum da) :=
  piImp (pi_enumA hg hm ha hs) fun σ H R ⟨env, M, q, E, H0, so, S, h, k, kx⟩ => goA so S h kx fun vs ds H1 H' M1 e1 so1 S1 rs ⟨d, xs, ed, ex, w⟩ kx1 => by
    subst ed
    obtain ⟨v, rfl, rx⟩ := dnl1 rs
    have fin : ∀ J ok, ItOk X.K H1 J (enumD xs) ok → q (enumD xs) ok M1 → R J H' := fun J ok z w => k J _ ok H1 H' M1 e1 S1 z w
    cases rx with
    | lst hh r =>
      cases ex
      exact ⟨_, _, rfl, .inl ⟨SqL.of (S1.ex _ _ hh), fin _ _ (ite_ok (d := .lst xs) fun H0' H M e S _ => ⟨_, SqL.of (S.ex _ _ (e _ _ hh)), r.mono e⟩) w⟩⟩
    | lsf hh r =>
      cases ex
      exact ⟨_, _, rfl, .inl ⟨S1.ex.sqL hh, fin _ _ (ite_ok (d := .lsf xs) fun H0' H M e S _ => ⟨_, (e.trans S.ex).sqL hh, r.mono e⟩) w⟩⟩
    | tup hh r =>
      cases ex
      exact ⟨_, _, rfl, .inr ⟨S1.ex.sqT hh, fin _ _ (iteT_ok hh r _) w⟩⟩
    | cel c =>
      obtain ⟨_, vs, e2, r⟩ := S1.cell c xs (celL_eq ex)
      exact ⟨_, vs, rfl, .inl ⟨SqL.of e2, fin _ _ (ite_ok (d := .cel c) fun H0' H M e S ok => by
        obtain ⟨_, ws, e3, r3⟩ := S.cell c xs (celL_eq ok)
        exact ⟨ws, SqL.of e3, r3⟩) w⟩⟩
    | _ => cases ex
/-- zip of two tuples -/
def zipD (xs ys : List D) : List D := xs.zipWith (fun x y => .tup [x, y]) ys
theorem itzT_ok {K : PySem.W.Frag} {H0 : Hp} {a b : Addr} {xs ys : List D} {vs us : List V} (h : SqT K H0 a vs) (r : DnL K H0 vs xs) (h' : SqT K H0 b us) (r' : DnL K H0 us ys) (ok : Mem → Prop) : ItOk K H0 (ItzT K a b) (zipD xs ys) ok where
  go := fun H0' H M i y e S _ hi => by
    unfold zipD at hi
    rw [List.getElem?_zipWith] at hi
    cases hx : xs[i]? with
    | none => rw [hx] at hi; simp at hi
    | some x =>
      cases hy : ys[i]? with
      | none => rw [hx, hy] at hi; simp at hi
      | some z =>
        rw [hx, hy] at hi
        simp at hi
        subst hi
        obtain ⟨v, hv, rv⟩ := r.get hx
        obtain ⟨u, hu, ru⟩ := r'.get hy
        have hs : SqT K H a vs := (e.trans S.ex).sqT h
        have hs' : SqT K H b us := (e.trans S.ex).sqT h'
        exact ⟨⟨vs, us, v, u, hs, hs', hv, hu⟩, fun z H' ⟨T, p, q, e1, hT, e2, e3, e4⟩ => by
          subst e1 e2
          have a1 := e3 vs hs
          rw [hv] at a1
          cases a1
          have a2 := e4 us hs'
          rw [hu] at a2
          cases a2
          exact mk_pair S hT (rv.mono e) (ru.mono e)⟩
  stop := fun H0' H M i e S _ hi => ⟨vs, us, (e.trans S.ex).sqT h, (e.trans S.ex).sqT h', by
    unfold zipD at hi
    rw [List.length_zipWith] at hi
    rw [r.length, r'.length]
    omega⟩
theorem itzL_ok {K : PySem.W.Frag} {H0 : Hp} {a b : Addr} {d d' : D} {xs ys : List D} (hl : ∀ H0' H M, Ext H0 H0' → SD K H0' H M → lsqOf M d = some xs → ∃ vs, SqL K H a vs ∧ DnL K H0' vs xs) (hl' : ∀ H0' H M, Ext H0 H0' → SD K H0' H M → lsqOf M d' = some ys → ∃ vs, SqL K H b vs ∧ DnL K H0' vs ys) :
    ItOk K H0 (Itz K a b) (zipD xs ys) (fun M => lsqOf M d = some xs ∧ lsqOf M d' = some ys) where
  go := fun H0' H M i y e S ok hi => by
    unfold zipD at hi
    rw [List.getElem?_zipWith] at hi
    obtain ⟨vs, hs, r⟩ := hl H0' H M e S ok.1
    obtain ⟨us, hs', r'⟩ := hl' H0' H M e S ok.2
    cases hx : xs[i]? with
    | none => rw [hx] at hi; simp at hi
    | some x =>
      cases hy : ys[i]? with
      | none => rw [hx, hy] at hi; simp at hi
      | some z =>
        rw [hx, hy] at hi
        simp at hi
        subst hi
        obtain ⟨v, hv, rv⟩ := r.get hx
        obtain ⟨u, hu, ru⟩ := r'.get hy
        exact ⟨⟨vs, us, v, u, hs, hs', hv, hu⟩, fun z H' ⟨T, p, q, e1, hT, e2, e3, e4⟩ => by
          subst e1 e2
          have a1 := e3 vs hs
          rw [hv] at a1
          cases a1
          have a2 := e4 us hs'
          rw [hu] at a2
          cases a2
          exact mk_pair S hT rv ru⟩
  stop := fun H0' H M i e S ok hi => by
    obtain ⟨vs, hs, r⟩ := hl H0' H M e S ok.1
    obtain ⟨us, hs', r'⟩ := hl' H0' H M e S ok.2
    refine ⟨vs, us, hs, hs', ?_⟩
    unfold zipD at hi
    rw [List.length_zipWith] at hi
    rw [r.length, r'.length]
    omega
theorem lsq_at {K : PySem.W.Frag} {H0 : Hp} {v : V} {d : D} {a : Addr} {xs : List D} (h : Dn K H0 v d) (ev : v = .ref a) : ∀ H0' H M, Ext H0 H0' → SD K H0' H M → lsqOf M d = some xs → ∃ vs, SqL K H a vs ∧ DnL K H0' vs xs := fun H0' H M e S q => by
  obtain ⟨b, vs, e1, hs, r⟩ := S.lsq (h.mono e) q
  rw [ev] at e1
  cases e1
  exact ⟨vs, hs, r⟩
@[reducible] def dZip (da : DA) : DI := fun env M q E => da env M (fun ds M1 => ∃ d d' xs ys, ds = [d, d'] ∧ ((d = .tup xs ∧ d' = .tup ys ∧ q (zipD xs ys) (fun _ => True) M1) ∨ (lsqOf M1 d = some xs ∧ lsqOf M1 d' = some ys ∧ q (zipD xs ys) (fun M' => lsqOf M' d = some xs ∧ lsqOf M' d' = some ys) M1))) E
theorem id_zip {e e2 : Expr} {da : DA} {p pos tpos : Pos} {elts : List Expr} {kk : Nat} (hg : Gl X "zip") (hm : X.mg "zip" = none) (ha : AD X W [e, e2] da)
    (hs : starEach [e, e2] X.env = (false, eval e X.env) :: starEach [e2] X.env := by rfl) (hpl : (backTo pos (starEach [e2] X.env)).any (·.1) = false := by rfl) : ID X W (.Tuple elts kk tpos) (.Call (.Name "zip" p) [e, e2] [] pos) (dZip da) :=
  piImp (pi_zipA hg hm ha hs hpl) fun σ H R ⟨env, M, q, E, H0, so, S, h, k, kx⟩ => goA so S h kx fun vs ds H1 H' M1 e1 so1 S1 rs ⟨d, d', xs, ys, ed, w⟩ kx1 => by
    subst ed
    obtain ⟨v, u, rfl, rv, ru⟩ := dnl2 rs
    rcases w with ⟨rfl, rfl, w⟩ | ⟨w1, w2, w⟩
    · cases rv with
      | tup hh r => cases ru with
        | tup hh' r' => exact ⟨_, _, _, _, rfl, .inr ⟨S1.ex.sqT hh, S1.ex.sqT hh', k _ _ _ H1 H' M1 e1 S1 (itzT_ok hh r hh' r' _) w⟩⟩
    · obtain ⟨a, us, ea, hq, r⟩ := S1.lsq rv w1
      obtain ⟨b, us', eb, hq', r'⟩ := S1.lsq ru w2
      subst ea eb
      exact ⟨a, b, us, us', rfl, .inl ⟨hq, hq', k _ _ _ H1 H' M1 e1 S1 (itzL_ok (d := d) (d' := d') (lsq_at rv rfl) (lsq_at ru rfl)) w⟩⟩
end
end DL
set_option maxRecDepth 100000
set_option maxHeartbeats 4000000
namespace DL
open PySem PySem.Spec PyProof.Rows L2
def tyT : D → Option String
  | .non => some "NoneType"
  | .bl _ => some "bool"
  | .int _ => some "int"
  | .str _ => some "str"
  | .lst _ => some "list"
  | .lsf _ => some "list"
  | .tup _ => some "tuple"
  | .dic _ _ => some "dict"
  | _ => none
def tyD (M : Mem) : D → Option String
  | .cel c => match M c with
    | some (.ls _) => some "list"
    | some (.dc _) => some "dict"
    | _ => none
  | d => tyT d
theorem SD.tyX {K : PySem.W.Frag} {H0 H : Hp} {M : Mem} (S : SD K H0 H M) {v : V} {d : D} {t : String} (h : Dn K H0 v d) (e : tyD M d = some t) : TyX K H v (.type t) := by
  have rd : ∀ {a : Addr} {xs : List V}, Rd H a (.lst xs) → TyX K H (.ref a) (.type "list") := fun z => z.elim (fun z => .base (.lst z)) fun ⟨o, z⟩ => .base (.frz z)
  have rt : ∀ {a : Addr} {xs : List V}, Rd H a (.tup xs) → TyX K H (.ref a) (.type "tuple") := fun z => z.elim (fun z => .base (.tup z)) fun ⟨o, z⟩ => .fTuple z
  cases h with
  | non => cases e; exact .base .non
  | bl b => cases e; exact .base (.bl b)
  | int b => cases e; exact .base (.int b)
  | str b => cases e; exact .base (.str b)
  | ty n => cases e
  | cel c =>
    have e' : (match M c with | some (.ls _) => some "list" | some (.dc _) => some "dict" | _ => none) = some t := e
    split at e'
    · rename_i xs hm; cases e'
      obtain ⟨_, vs, q, _⟩ := S.any c _ hm
      exact .base (.lst q)
    · rename_i xs hm; cases e'
      obtain ⟨_, vs, q, _⟩ := S.any c _ hm
      exact .base (.dK q)
    · cases e'
  | lst q r => cases e; exact .base (.lst (S.ex _ _ q))
  | lsf q r =>
    cases e
    rcases S.ex.sqL q with z | ⟨o, _, _, z, c, _⟩
    · exact rd z
    · exact .kList z c
  | tup q r =>
    cases e
    rcases S.ex.sqT q with z | ⟨o, _, _, z, c, _⟩
    · exact rt z
    · exact .kTuple z c
  | dic q r => cases e; exact .base (.dK (S.ex _ _ q))
  | ins q r => cases e
def isT (a b : String) : Option Bool := match b with
  | "int" => (match a with | "int" => some true | "bool" => some true | "NoneType" => some false | "str" => some false | "list" => some false | "tuple" => some false | "dict" => some false | _ => none)
  | "bool" => (match a with | "int" => some false | "bool" => some true | "NoneType" => some false | "str" => some false | "list" => some false | "tuple" => some false | "dict" => some false | _ => none)
  | "str" => (match a with | "int" => some false | "bool" => some false | "NoneType" => some false | "str" => some true | "list" => some false | "tuple" => some false | "dict" => some false | _ => none)
  | "tuple" => (match a with | "int" => some false | "bool" => some false | "NoneType" => some false | "str" => some false | "list" => some false | "tuple" => some true | "dict" => some false | _ => none)
  | _ => none
theorem isT_ok {a b : String} {r : Bool} (h : isT a b = some r) : kitB a b = some r := by
  unfold isT at h
  split at h <;> (try cases h) <;> (split at h <;> (try cases h) <;> decide +kernel)
@[reducible] def rdIsi (n : String) : RD1 := fun d M q => ∃ t b, tyD M d = some t ∧ isT t n = some b ∧ q (.bl b) M
section
variable {X : Cx} {W : WX}
@[reducible] def dIsi (n : String) (de : DE) : DE := fun env M q E => de env M (fun d M1 => rdIsi n d M1 q) E
theorem pd_isi {e : Expr} {y : Str} {n : String} {p p' pos : Pos} {de : DE} (he : PD X W e de) (hm : X.mg "isinstance" = none) (hmy : X.mg y = none) (hv : bootBuiltins y = some (.type n)) (hg : Gl X "isinstance" := by rfl) (hgy : Gl X y := by rfl) (hny : y ≠ "__name__" := by decide) (hdy : (y == ("__debug__" : Str)) = false := by decide)
    (hs : starEach [e, .Name y p'] X.env = (false, eval e X.env) :: starEach [.Name y p'] X.env := by rfl) (hpl : (backTo pos (starEach [.Name y p'] X.env)).any (·.1) = false := by rfl) (hv2 : bootBuiltins "isinstance" = some (.builtin "isinstance") := by decide +kernel) : PD X W (.Call (.Name "isinstance" p) [e, .Name y p'] [] pos) (dIsi n de) := by
  have h2 : AD X W [e, .Name y p'] (dCons de (dCons (dC (.ty n)) dNil)) := ad_cons he (ad_cons (pd_of_tC (pe_bltn hgy hmy hv (show RelV (.ty n) (.type n) from rfl) hny hdy) fun _ => .ty n) ad_nil (by rfl)) hs
  refine peImp (pe_callB (x := "isinstance") call_isi hg hm hv2 h2 (by decide) (by decide) hs hpl) fun σ H Q ⟨env, M, q, E, H0, so, S, h, k, kx⟩ => ?_
  refine ⟨env, M, fun ds M1 => (match ds with | [d, .ty m] => m = n ∧ rdIsi n d M1 q | _ => False), E, H0, so, S, ?_, ?_, kx⟩
  · show de env M (fun d M1 => n = n ∧ rdIsi n d M1 q) E
    rw [show (fun d M1 => n = n ∧ rdIsi n d M1 q) = (fun d M1 => rdIsi n d M1 q) from by funext d M1; exact propext ⟨fun h => h.2, fun h => ⟨rfl, h⟩⟩]
    exact h
  · intro vs ds H1 H' M1 e1 S1 rs w
    have w' : ∃ d, ds = [d, .ty n] ∧ rdIsi n d M1 q := by
      revert w
      split
      · rintro ⟨rfl, w⟩; exact ⟨_, rfl, w⟩
      · exact fun z => z.elim
    clear w
    obtain ⟨d, ed, t, b, et, eb, w⟩ := w'
    subst ed
    obtain ⟨v, u, rfl, rv, ru⟩ := dnl2 rs
    cases ru
    exact ⟨v, .ty n, .type t, .type n, b, rfl, .ty n, S1.tyX rv et, kit_ty (isT_ok eb), k _ _ H1 H' M1 e1 S1 (.bl b) w⟩
end
def IsPairS (h : Heap) (v : Value) (x : Int) (z : PySem.Str) : Prop := ∃ (a : Addr) (o : Obj) (t u : Tok) (n : Nat), v = .ref a ∧ h.get? a = some o ∧ o.cls = .type "tuple" ∧ o.data = .seq #[.int x t, .str z u] n
theorem IsPairS.keeps {h h' : Heap} {v : Value} {x : Int} {z : PySem.Str} (p : IsPairS h v x z) (k : ∀ b o, h.get? b = some o → o.cls = .type "tuple" → h'.get? b = some o) : IsPairS h' v x z := by
  obtain ⟨a, o, t, u, n, e, ho, hc, hd⟩ := p
  exact ⟨a, o, t, u, n, e, k a o ho hc, hc, hd⟩
section
open SrtO Srt
variable {prog : Program} {w : World} {A : Around} {E : Value → Shared → Prop} {s : Shared}
abbrev ltI (k : Value → Int) (v u : Value) : Bool := decide (k v < k u)
theorem swo_int (k : Value → Int) : Swo (ltI k) := ⟨fun x y h => by
  have := of_decide_eq_true h
  exact decide_eq_false (by omega), fun x y z h1 h2 => by
  have a := of_decide_eq_false h1
  have b := of_decide_eq_false h2
  exact decide_eq_false (by omega)⟩
theorem pairS_cmp {vs : List Value} {k : Value → Int} {z : Value → PySem.Str} (hp : ∀ v ∈ vs, IsPairS s.heap v (k v) (z v)) (hi : ∀ v ∈ vs, ∀ u ∈ vs, k v = k u → z v = z u) : Cmp prog w A s (tuples' true) (fun p => p.1 ∈ vs) (lt2 (ltI k)) := by
  intro p q hm hm'
  have h1 := hp _ hm
  have h2 := hp _ hm'
  have h3 := hi _ hm _ hm'
  show wpAny (model prog w) A (keyLt' (tuples' true) p.1 q.1) (fun r s' => s' = s ∧ r = decide (k p.1 < k q.1)) (fun _ _ => False) s
  generalize k p.1 = x at h1 h3 ⊢
  generalize z p.1 = y at h1 h3 ⊢
  generalize k q.1 = x' at h2 h3 ⊢
  generalize z q.1 = y' at h2 h3 ⊢
  obtain ⟨a, o, t, u, n, e, ho, hc, hd⟩ := h1
  obtain ⟨a', o', t', u', n', e', ho', hc', hd'⟩ := h2
  rw [e, e']
  refine PySem.W.kat_lt ho hd ho' hd' ?_
  show PySem.W.KatLex prog w A true (decide (2 < 2)) _ [(.int x t, .int x' t'), (.str y u, .str y' u')] 0 s
  refine PySem.W.kat_cons (SeqAt.EqAt.int_int x t x' t' prog w _ _ ?_)
  refine PySem.W.kat_go (fun e1 => ?_) (fun e1 => ?_)
  · have ex : x = x' := by simpa using e1
    have ey := h3 ex
    subst ex ey
    refine PySem.W.kat_yes (PySem.W.kat_cons (SeqAt.EqAt.str_str y u y u' prog w _ _ ?_))
    refine PySem.W.kat_go (fun e2 => ?_) (fun e2 => ?_)
    · exact PySem.W.kat_yes (PySem.W.kat_nil ⟨rfl, (decide_eq_false (Int.lt_irrefl _)).symm⟩)
    · exact absurd e2 (by simp)
  · exact PySem.W.kat_no (oneLt_int ⟨rfl, rfl⟩)
theorem firstsS {h : Heap} : ∀ {vs : List Value}, (∀ v ∈ vs, ∃ x y, IsPairS h v x y) → ∃ fs : List Value, PySem.W.KatTups h vs fs ∧ fs.length = vs.length ∧ ∀ f ∈ fs, ∃ x t, f = Value.int x t
  | [], _ => ⟨[], PySem.W.KatTups.nil, rfl, fun _ hm => by simp at hm⟩
  | v :: vs, hp => by
    obtain ⟨fs, h1, h2, h3⟩ := firstsS (vs := vs) fun v' hm => hp v' (List.mem_cons_of_mem _ hm)
    obtain ⟨x, y, a, o, t, u, n, e, ho, hc, hd⟩ := hp v (List.mem_cons_self ..)
    subst e
    refine ⟨.int x t :: fs, PySem.W.KatTups.cons ho hc hd rfl h1, by rw [List.length_cons, List.length_cons, h2], fun f hm => ?_⟩
    rcases List.mem_cons.mp hm with rfl | hm
    · exact ⟨x, t, rfl⟩
    · exact h3 f hm
theorem pairS_sortable {a : Addr} {vs : List Value} {k : Value → Int} {z : Value → PySem.Str} (h0 : 0 < vs.length) (hp : ∀ v ∈ vs, IsPairS s.heap v (k v) (z v)) (hi : ∀ v ∈ vs, ∀ u ∈ vs, k v = k u → z v = z u) (ha : ∀ o, s.heap.get? a = some o → o.cls ≠ .type "tuple") : SortableO prog w A s a vs (ltI k) := by
  intro h' keep
  have hp' : ∀ v ∈ vs, IsPairS h' v (k v) (z v) := fun v hm => (hp v hm).keeps fun b o e c => keep b o (fun z => by subst z; exact ha o e c) e
  obtain ⟨fs, h1, h2, h3⟩ := firstsS fun v hm => ⟨_, _, hp' v hm⟩
  refine ⟨tuples' true, fun Q E hq => ?_, pairS_cmp hp' hi⟩
  refine PySem.W.kat_kind (T := .type "int") h1 (by omega) (fun f hm => ?_) (by rfl) ?_
  · obtain ⟨x, t, rfl⟩ := h3 f hm
    exact PySem.W.Looks.now
  · have e : (Value.type "int" != Value.type "tuple") = true := by first | decide +kernel | rfl | decide
    rw [e]
    exact hq
theorem sorted_pairS {l : Addr} {vs : List Value} {k : Value → Int} {z : Value → PySem.Str} {Q : Value → Shared → Prop} (hl : s.heap.IsList l vs.toArray) (hz : vs.length ≤ sizeLine) (hp : ∀ v ∈ vs, IsPairS s.heap v (k v) (z v)) (hi : ∀ v ∈ vs, ∀ u ∈ vs, k v = k u → z v = z u)
    (h : ∀ (h' : Heap) (d : Addr) (out : List Value), Srtd (ltI k) out → Stb (ltI k) out vs → (∀ b o, s.heap.get? b = some o → h'.get? b = some o) → s.heap.objs.size ≤ d → (∃ n, h'.get? d = some (seqObj "list" out.toArray n)) → Q (.ref d) { s with heap := h' }) :
    wpAny (model prog w) A (call (.builtin "sorted") [.ref l]) Q E s := by
  refine sorted_ord (swo_int k) hl hz (fun h2 h₁ a ha kk => ?_) fun out hs hb => ?_
  · refine pairS_sortable (s := { s with heap := h₁ }) (by omega) (fun v hm => (hp v hm).keeps fun b o e _ => (kk b o e).2) hi fun o e => ?_
    have e' : some o = some (seqObj "list" vs.toArray 0) := e.symm.trans ha
    cases e'
    intro c
    exact absurd (Value.type.inj c) (by decide)
  · exact h _ _ out hs hb (fun b o e => sortedAll_old e) (Nat.le_succ _) (sortedAll_at s.heap vs out.toArray)
end
/-- what a pair at v says -/
def pairAt (K : PySem.W.Frag) (H : Hp) (v : V) (p : Int × PySem.Str) : Prop := ∃ t, v = .ref t ∧ SqT K H t [.int p.1, .str p.2]
/-- sorted(xs) over the layer: refs to pairs -/
def rSortPS (K : PySem.W.Frag) : List V → Hp → VK → Prop := fun vs H Q => ∃ (a : Addr) (xs : List V) (ps : List (Int × PySem.Str)), vs = [V.ref a] ∧ SqL K H a xs ∧ (∀ x ∈ xs, ∃ p, p ∈ ps ∧ pairAt K H x p) ∧ (∀ p ∈ ps, ∀ q ∈ ps, p.1 = q.1 → p.2 = q.2) ∧
  ∀ (ys : List V) (p : Addr), ys.Pairwise (fun x y => ∀ p q : Int × PySem.Str, pairAt K H x p → pairAt K H y q → p.1 ≤ q.1) → ys.Perm xs → H p = none → Q (.ref p) (upd H p (.lst ys))
section
variable {X : Cx} {W : WX}
open Classical in
theorem cr_sortPS : CallR X (.builtin "sorted") (rSortPS X.K) := by
  intro pins s σ H vs us Q I r h
  obtain ⟨a, xs, ps, rfl, hs, hx, hi, q⟩ := h
  let g : V → Int × PySem.Str := fun v => if e : ∃ p, pairAt X.K H v p then e.choose else (0, default)
  have gok : ∀ v p, pairAt X.K H v p → g v = p := fun v p hp => by
    have e : ∃ p, pairAt X.K H v p := ⟨p, hp⟩
    have e1 : g v = e.choose := dif_pos e
    obtain ⟨t, rfl, q1⟩ := hp
    obtain ⟨t', e2, q2⟩ := e.choose_spec
    cases e2
    have z := I.tuple_inj q1 q2
    rw [e1]
    simp only [List.cons.injEq, V.int.injEq, V.str.injEq, and_true] at z
    exact Prod.ext z.1.symm z.2.symm
  obtain ⟨its, rv, hl, hz⟩ := I.list hs
  obtain ⟨u, rfl, ru⟩ := vals1 r
  obtain rfl : u = Value.ref a := ru
  obtain ⟨e1, e2⟩ := refs_back rv fun x m => by
    obtain ⟨p, _, t, e, _⟩ := hx x m
    exact ⟨t, e⟩
  have mem : ∀ v ∈ its, backV v ∈ xs := fun v hv => by rw [e1]; exact List.mem_map.mpr ⟨v, hv, rfl⟩
  have gat : ∀ v ∈ xs, pairAt X.K H v (g v) := fun v hv => by
    obtain ⟨p, _, hp⟩ := hx v hv
    rw [gok v p hp]; exact hp
  have gin : ∀ v ∈ xs, g v ∈ ps := fun v hv => by
    obtain ⟨p, hm, hp⟩ := hx v hv
    rw [gok v p hp]; exact hm
  refine sorted_pairS (k := fun u => (g (backV u)).1) (z := fun u => (g (backV u)).2) hl.isList (by rw [← rv.length]; exact hz) (fun v hv => ?_) (fun v hv u hu => hi _ (gin _ (mem v hv)) _ (gin _ (mem u hu))) fun h' d out h1 h2 kp hd hn => ?_
  · obtain ⟨t, rfl⟩ := e2 v hv
    obtain ⟨t', et, ht⟩ := gat _ (mem _ hv)
    cases et
    obtain ⟨its2, rv2, ⟨o, ho, hc, n, hdt⟩, _⟩ := I.tuple ht
    obtain ⟨u1, u2, rfl, r1, r2⟩ := vals2 rv2
    obtain ⟨t1, rfl⟩ := r1
    obtain ⟨t2, rfl⟩ := r2
    exact ⟨t, o, t1, t2, n, rfl, ho, hc, hdt⟩
  · have h3 : ∀ u ∈ out, ∃ a, u = Value.ref a := fun u hu => e2 u (h2.perm.mem_iff.mp hu)
    obtain ⟨n, hn⟩ := hn
    have hb : (out.map backV).Perm xs := by rw [e1]; exact h2.perm.map backV
    refine ⟨.ref d, upd H d (.lst (out.map backV)), I.laid (t' := s.toks) kp hd ⟨?_, out, n, vals_back h3, hn⟩, rfl, q _ d ?_ hb (I.hok.fresh hd)⟩
    · rw [hb.length_eq]
      exact hz
    · rw [List.pairwise_map]
      exact h1.imp fun h p q hp hq => by
        rw [← gok _ p hp, ← gok _ q hq]
        exact Int.not_lt.mp (of_decide_eq_false h)
def pairsD : List D → Option (List (Int × PySem.Str))
  | [] => some []
  | .tup [.int i, .str z] :: ds => (pairsD ds).map ((i, z) :: ·)
  | _ => none
def pairD (p : Int × PySem.Str) : D := .tup [.int p.1, .str p.2]
theorem pairsD_eq : ∀ {ds : List D} {ps : List (Int × PySem.Str)}, pairsD ds = some ps → ds = ps.map pairD
  | [], ps, h => by cases h; rfl
  | d :: ds, ps, h => by
    unfold pairsD at h
    split at h
    · rename_i e; cases e
    · rename_i i z ds' e
      cases e
      obtain ⟨qs, e1, rfl⟩ := omap h
      rw [List.map_cons, ← pairsD_eq e1]
      rfl
    · cases h
theorem pairsD_map : ∀ ps : List (Int × PySem.Str), pairsD (ps.map pairD) = some ps
  | [] => rfl
  | p :: ps => by
    show (pairsD (ps.map pairD)).map (p :: ·) = _
    rw [pairsD_map ps]
    rfl
theorem DnL.perm {K : PySem.W.Frag} {H : Hp} {vs us : List V} (p : us.Perm vs) : ∀ {ds : List D}, DnL K H vs ds → ∃ es, es.Perm ds ∧ DnL K H us es := by
  induction p with
  | nil => intro ds h; exact ⟨ds, .refl _, h⟩
  | cons x _ ih =>
    intro ds h
    cases h with
    | cons a r =>
      obtain ⟨es, p, z⟩ := ih r
      exact ⟨_ :: es, p.cons _, .cons a z⟩
  | swap x y l =>
    intro ds h
    cases h with
    | cons a r => cases r with
      | cons b r => exact ⟨_, List.Perm.swap _ _ _, .cons b (.cons a r)⟩
  | trans _ _ ih1 ih2 =>
    intro ds h
    obtain ⟨es, p1, z1⟩ := ih2 h
    obtain ⟨fs, p2, z2⟩ := ih1 z1
    exact ⟨fs, p2.trans p1, z2⟩
theorem dn_pair {K : PySem.W.Frag} {H : Hp} {v : V} {p : Int × PySem.Str} (h : Dn K H v (pairD p)) : pairAt K H v p := by
  cases h with
  | tup q r =>
    obtain ⟨a, b, e, ra, rb⟩ := dnl2 r
    subst e
    rw [ra.inv_int, rb.inv_str] at q
    exact ⟨_, rfl, q⟩
def rdSortP : RDL := fun ds M q => ∃ (d : D) (xs : List D) (ps : List (Int × PySem.Str)), ds = [d] ∧ lsqOf M d = some xs ∧ pairsD xs = some ps ∧ (∀ a ∈ ps, ∀ b ∈ ps, a.1 = b.1 → a.2 = b.2) ∧ ∀ ps' : List (Int × PySem.Str), ps'.Perm ps → ps'.Pairwise (fun a b => a.1 ≤ b.1) → q (.lst (ps'.map pairD)) M
theorem map_pairs {ds : List D} {ps : List (Int × PySem.Str)} (h : ds.Perm (ps.map pairD)) : ∃ ps' : List (Int × PySem.Str), ps'.Perm ps ∧ ds = ps'.map pairD := by
  have hh : ∃ l, ds = List.map pairD l := by
    have inj : ∀ d ∈ ds, ∃ p, d = pairD p := fun d hd => by
      obtain ⟨p, _, e⟩ := List.mem_map.mp (h.mem_iff.mp hd)
      exact ⟨p, e.symm⟩
    clear h
    induction ds with
    | nil => exact ⟨[], rfl⟩
    | cons d ds ih =>
      obtain ⟨l, e⟩ := ih fun x hx => inj x (List.mem_cons_of_mem _ hx)
      obtain ⟨p, e2⟩ := inj d List.mem_cons_self
      exact ⟨p :: l, by rw [e2, e]; rfl⟩
  obtain ⟨l, e⟩ := hh
  refine ⟨l, ?_, e⟩
  rw [e] at h
  let f : D → Int × PySem.Str := fun d => match d with | .tup [.int i, .str z] => (i, z) | _ => ((0 : Int), (default : PySem.Str))
  have hm := h.map f
  rw [List.map_map, List.map_map] at hm
  have idd : (f ∘ pairD) = id := funext fun q => rfl
  rw [idd, List.map_id, List.map_id] at hm
  exact hm
theorem dn_pw {K : PySem.W.Frag} {H : Hp} {R : V → V → Prop} {T : Int × PySem.Str → Int × PySem.Str → Prop} (hT : ∀ x y p q, Dn K H x (pairD p) → Dn K H y (pairD q) → R x y → T p q) : ∀ {vs : List V} {ps : List (Int × PySem.Str)}, DnL K H vs (ps.map pairD) → vs.Pairwise R → ps.Pairwise T
  | _, [], _, _ => .nil
  | _, p :: ps, .cons a r, .cons h1 h2 => by
    refine .cons (fun q hq => ?_) (dn_pw hT r h2)
    obtain ⟨n, hn⟩ := List.getElem?_of_mem hq
    obtain ⟨v, hv, rv⟩ := r.get (i := n) (d := pairD q) (by rw [List.getElem?_map, hn]; rfl)
    exact hT _ _ _ _ a rv (h1 _ (List.mem_of_getElem? hv))
theorem cd_sortP : CallD X (.builtin "sorted") rdSortP := ⟨_, cr_sortPS, fun H0 H M xs ds q Q S r w k => by
  obtain ⟨d, ys, ps, rfl, e, ep, hi, w⟩ := w
  obtain ⟨v, rfl, rv⟩ := dnl1 r
  obtain ⟨a, vs, rfl, hs, rs⟩ := S.lsq rv e
  have eq := pairsD_eq ep
  subst eq
  have ex : ∀ x ∈ vs, ∃ p ∈ ps, Dn X.K H0 x (pairD p) := fun x hx => by
    obtain ⟨n, hn⟩ := List.getElem?_of_mem hx
    obtain ⟨dd, h1, h2⟩ := rs.getV hn
    rw [List.getElem?_map] at h1
    obtain ⟨p, hp, rfl⟩ := omap h1
    exact ⟨p, List.mem_of_getElem? hp, h2⟩
  refine ⟨a, vs, ps, rfl, hs, fun x hx => ?_, hi, fun us b hs2 hp hb => ?_⟩
  · obtain ⟨p, m, z⟩ := ex x hx
    exact ⟨p, m, dn_pair (z.mono S.ex)⟩
  · obtain ⟨es, pe, re⟩ := rs.perm hp
    obtain ⟨ps', pp, rfl⟩ := map_pairs pe
    refine k.newL S re (w ps' pp (dn_pw (fun x y p q h1 h2 z => z p q (dn_pair (h1.mono S.ex)) (dn_pair (h2.mono S.ex))) re hs2)) b hb⟩
def kvsD : List D → Option (List (Key × D))
  | [] => some []
  | .tup [k, v] :: ds => match keyD k, kvsD ds with
    | some k, some r => some ((k, v) :: r)
    | _, _ => none
  | _ => none
def mergeD (acc : List (Key × D)) : List (Key × D) → List (Key × D)
  | [] => acc
  | kv :: r => mergeD (setK acc kv.1 kv.2) r
theorem KvL.merge {K : PySem.W.Frag} {H : Hp} : ∀ {r2 : List (Key × V)} {s2 : List (Key × D)}, KvL K H r2 s2 → ∀ {r : List (Key × V)} {s : List (Key × D)}, KvL K H r s → KvL K H (mergeK r r2) (mergeD s s2)
  | _, _, .nil, _, _, a => a
  | _, _, .cons (k := k) (v := v) (d := d) (r := r2) (s := s2) h b, r, s, a => by
    show KvL K H (mergeK (putK r k v) r2) (mergeD (setK s k d) s2)
    exact KvL.merge b (a.put h)
theorem kvs_dn {K : PySem.W.Frag} {H0 H : Hp} (e : Ext H0 H) : ∀ {xs : List D} {vs : List V} {kvs : List (Key × D)}, DnL K H0 vs xs → kvsD xs = some kvs → ∃ (ps : List Addr) (rvs : List (Key × V)), vs = ps.map V.ref ∧ Paired (fun p kv => SqT K H p [kV kv.1, kv.2]) ps rvs ∧ KvL K H0 rvs kvs
  | [], _, _, .nil, h => by cases h; exact ⟨[], [], rfl, .nil, .nil⟩
  | d :: xs, _, _, .cons a r, h => by
    unfold kvsD at h
    split at h
    · rename_i z; cases z
    · rename_i k v ds z
      cases z
      split at h
      · rename_i k' r' e1 e2
        cases h
        obtain ⟨ps, rvs, rfl, pp, kk⟩ := kvs_dn e r e2
        cases a with
        | tup q s =>
          obtain ⟨x, y, ee, rx, ry⟩ := dnl2 s
          subst ee
          have := keyD_dn rx e1
          subst this
          exact ⟨_ :: ps, (k', y) :: rvs, rfl, .cons (e.sqT q) pp, .cons ry kk⟩
      · cases h
    · cases h
def rdDictC : RDL := fun ds M q => ∃ d xs kvs, ds = [d] ∧ lsqOf M d = some xs ∧ kvsD xs = some kvs ∧ ∀ a, M a = none → q (.cel a) (mset M a (.dc (mergeD [] kvs)))
theorem cd_dictC (hc : X.calm = true) : CallD X (.type "dict") rdDictC := ⟨_, call_dictP hc, fun H0 H M xs ds q Q S r w k => by
  obtain ⟨d, ys, kvs, rfl, e, ek, w⟩ := w
  obtain ⟨v, rfl, rv⟩ := dnl1 r
  obtain ⟨a, vs, rfl, hs, rs⟩ := S.lsq rv e
  obtain ⟨ps, rvs, rfl, pp, kk⟩ := kvs_dn S.ex rs ek
  refine ⟨a, ps, rvs, rfl, hs, pp, fun p hp => ?_⟩
  exact k _ _ H0 _ _ (Ext.refl _) (S.put (x := .dc (mergeD [] kvs)) (S.fresh hp).1 fun _ e => ⟨_, e, KvL.merge kk .nil⟩) (.cel p) (w p (S.fresh hp).2)⟩
def inW (ok : Mem → Prop) (g : GD) (t : DT) (de : DE) (env : EnvD) (c : Addr) (nx : Mem → Prop) : List D → Mem → Prop
  | [], M => ok M ∧ nx M
  | x :: r, M => ok M ∧ g x env M (fun env' M' => t env' M' (fun b M2 => if b = true then de env' M2 (fun y M3 => ∃ xs, M3 c = some (.ls xs) ∧ xs.length < sizeLine ∧ inW ok g t de env c nx r (mset M3 c (.ls (xs ++ [y])))) noX else inW ok g t de env c nx r M2) noX) (fun _ => noX)
def lc2W (ok : Mem → Prop) (g : GD) (t : DT) (di1 : DI) (g1 : GD) (t1 : DT) (de : DE) (vs1 : List Nat) (env : EnvD) (q : QD) (c : Addr) : List D → Mem → Prop
  | [], M => ok M ∧ ∃ xs, M c = some (.ls xs) ∧ q (.lst xs) (mdel M c)
  | x :: r, M => ok M ∧ g x env M (fun env' M' => t env' M' (fun b M2 => if b = true then di1 env' M2 (fun items1 ok1 M3 => inW ok1 g1 t1 de (wipeD env' vs1) c (fun M4 => lc2W ok g t di1 g1 t1 de vs1 env q c r M4) items1 M3) noX else lc2W ok g t di1 g1 t1 de vs1 env q c r M2) noX) (fun _ => noX)
@[reducible] def dLc2 (di : DI) (g : GD) (t : DT) (di1 : DI) (g1 : GD) (t1 : DT) (de : DE) (vs vs1 : List Nat) : DE := fun env M q E => di env M (fun items ok M1 => ∀ c, M1 c = none → lc2W ok g t di1 g1 t1 de vs1 (wipeD env vs) q c items (mset M1 c (.ls []))) E
theorem wipe2 {σ : L2.St} (vs : List Nat) : wipe (wipe σ vs) vs = wipe σ vs := by
  have z : ∀ (ws : List Nat), (∀ v ∈ ws, v ∈ vs) → wipe (wipe σ vs) ws = wipe σ vs := fun ws => by
    induction ws with
    | nil => intro _; rfl
    | cons v ws ih =>
      intro hv
      show (wipe (wipe σ vs) ws).set v none = wipe σ vs
      rw [ih fun u hu => hv u (List.mem_cons_of_mem _ hu)]
      exact wipe_idem (hv v List.mem_cons_self)
  exact z vs fun _ h => h
theorem lift_lc2 {K : PySem.W.Frag} {di di1 : DI} {g g1 : GD} {t t1 : DT} {de : DE} {vs vs1 : List Nat} : ∀ σ H Q, liftE K W (dLc2 di g t di1 g1 t1 de vs vs1) σ H Q → tLc2 (liftI K W di) (liftGw K g vs) (liftT K WF t) (liftI K WF di1) (liftGw K g1 vs1) (liftT K WF t1) (liftE K WF de) vs vs1 σ H Q := fun σ H Q ⟨env, M, q, E, H0, so, S, h, k, kx⟩ =>
  goI so S h kx fun J items ok H1 H' M1 e1 so1 S1 io w kx1 => by
    intro Dl hD
    have S1' := S1.newCell (vs := []) (xs := []) hD .nil
    have sw := slot_wipe so1 vs
    refine ⟨fun i m H2 => m = items.length - i ∧ i ≤ items.length ∧ ∃ M2 H3, Ext H1 H3 ∧ SD K H3 H2 M2 ∧ lc2W ok g t di1 g1 t1 de vs1 (wipeD env vs) q Dl (items.drop i) M2,
      ⟨_, rfl, Nat.zero_le _, _, H1, Ext.refl _, S1', w Dl (S1.fresh hD).2⟩, ?_⟩
    rintro i m H2 ⟨rfl, hi2, M2, H3, e3, S3, w3⟩
    by_cases hlt : i < items.length
    · have hx : items[i]? = some items[i] := List.getElem?_eq_getElem hlt
      rw [List.drop_eq_getElem_cons hlt] at w3
      obtain ⟨o3, w3⟩ := w3
      obtain ⟨g1', g2⟩ := io.go H3 H2 M2 i _ e3 S3 o3 hx
      refine .inr ⟨g1', fun H4 => ∃ M4 H5, Ext H1 H5 ∧ SD K H5 H4 M4 ∧ lc2W ok g t di1 g1 t1 de vs1 (wipeD env vs) q Dl (items.drop (i + 1)) M4, fun H4 z => ⟨items.length - (i + 1), by omega, rfl, hlt, z⟩, fun x H4 y => ?_⟩
      obtain ⟨H5, e5, S5, r5⟩ := g2 x H4 y
      refine ⟨_, _, M2, _, H5, r5, sw.mono (e3.trans e5), S5, w3, fun σ6 env6 H6 H6' M6 e6 so6 S6 w6 wz => ⟨?_, goT so6 S6 w6 kx0 fun b H7 H7' M7 e7 so7 S7 w7 _ => ?_⟩⟩
      · rw [wz]; exact wipe2 vs
      · have e17 : Ext H1 H7 := ((e3.trans e5).trans e6).trans e7
        cases b with
        | false => exact iteF ⟨M7, H7, e17, S7, w7⟩
        | true =>
          refine iteT ?_
          refine goI so7 S7 (show di1 env6 M7 _ noX from w7) kx0 fun J1 items1 ok1 H8 H8' M8 e8 so8 S8 io1 w8 _ => ?_
          have sw1 := slot_wipe so8 vs1
          refine ⟨fun j m H9 => m = items1.length - j ∧ j ≤ items1.length ∧ ∃ M9 H10, Ext H8 H10 ∧ SD K H10 H9 M9 ∧ inW ok1 g1 t1 de (wipeD env6 vs1) Dl (fun M4 => lc2W ok g t di1 g1 t1 de vs1 (wipeD env vs) q Dl (items.drop (i + 1)) M4) (items1.drop j) M9,
            ⟨_, rfl, Nat.zero_le _, _, H8, Ext.refl _, S8, w8⟩, ?_⟩
          rintro j m H9 ⟨rfl, hj2, M9, H10, e10, S10, w10⟩
          by_cases hlj : j < items1.length
          · have hx1 : items1[j]? = some items1[j] := List.getElem?_eq_getElem hlj
            rw [List.drop_eq_getElem_cons hlj] at w10
            obtain ⟨o10, w10⟩ := w10
            obtain ⟨k1, k2⟩ := io1.go H10 H9 M9 j _ e10 S10 o10 hx1
            refine .inr ⟨k1, fun H4 => ∃ M4 H5, Ext H8 H5 ∧ SD K H5 H4 M4 ∧ inW ok1 g1 t1 de (wipeD env6 vs1) Dl (fun M4 => lc2W ok g t di1 g1 t1 de vs1 (wipeD env vs) q Dl (items.drop (i + 1)) M4) (items1.drop (j + 1)) M4, fun H4 z => ⟨items1.length - (j + 1), by omega, rfl, hlj, z⟩, fun x1 H11 y1 => ?_⟩
            obtain ⟨H12, e12, S12, r12⟩ := k2 x1 H11 y1
            refine ⟨_, _, M9, _, H12, r12, sw1.mono (e10.trans e12), S12, w10, fun σ13 env13 H13 H13' M13 e13 so13 S13 w13 wz1 => ⟨?_, goT so13 S13 w13 kx0 fun b1 H14 H14' M14 e14 so14 S14 w14 _ => ?_⟩⟩
            · rw [wz1]; exact wipe2 vs1
            · have e814 : Ext H8 H14 := ((e10.trans e12).trans e13).trans e14
              cases b1 with
              | true =>
                refine iteT ?_
                refine goE so14 S14 (show de env13 M14 _ noX from w14) kx0 fun v d H15 H15' M15 e15 so15 S15 r15 ⟨xs, ex, hl, w15⟩ _ => ?_
                obtain ⟨n0, us, e16, r16⟩ := S15.cell Dl xs ex
                exact ⟨us, e16, by rw [r16.length]; exact hl, _, H15, e814.trans e15, S15.write ex (r16.app (.one r15)), w15⟩
              | false => exact iteF ⟨M14, H14, e814, S14, w14⟩
          · have hge : items1.length ≤ j := Nat.le_of_not_lt hlj
            rw [List.drop_eq_nil_of_le hge] at w10
            exact .inl ⟨io1.stop H10 H9 M9 j e10 S10 w10.1 hge, M9, H10, (e17.trans e8).trans e10, S10, w10.2⟩
    · have hge : items.length ≤ i := Nat.le_of_not_lt hlt
      rw [List.drop_eq_nil_of_le hge] at w3
      obtain ⟨o3, xs, ex, w3⟩ := w3
      refine .inl ⟨io.stop H3 H2 M2 i e3 S3 o3 hge, ?_⟩
      obtain ⟨us, _, n0, S4, r4⟩ := S3.freeze ex
      exact k _ _ _ H2 _ ((e1.trans e3).trans (Ext.add n0)) S4 r4 w3
theorem pd_lc2 {elt tg iter tg1 iter1 : Expr} {ifs ifs1 : List Expr} {scope : Scope} {own : List (Str × Nat)} {vs1 : List Nat} {pos : Pos} {di di1 : DI} {g g1 : GD} {t t1 : DT} {de : DE} (hc : X.calm = true) (hN : X.N.Nodup) (hi : ID X W tg iter di) (ok : BlkOk X.N X.env.scope scope own) (hv : ∀ i ∈ vs1, i ∈ own.map (·.2))
    (hg : ∀ (s : Shared) (H : Hp) (C : Addr) (cl : List (Str × Addr)) (fp : List Addr), TgW (X.blk s H scope (compEnvC scope cl C X.env) fp) tg g (own.map (·.2))) (ht : ∀ (s : Shared) (H : Hp) (C : Addr) (cl : List (Str × Addr)) (fp : List Addr), TsD (X.blk s H scope (compEnvC scope cl C X.env) fp) ifs t)
    (hi1 : ∀ (s : Shared) (H : Hp) (C : Addr) (cl : List (Str × Addr)) (fp : List Addr), ID (X.blk s H scope (compEnvC scope cl C X.env) fp) WF tg1 iter1 di1)
    (hg1 : ∀ (s : Shared) (H : Hp) (C : Addr) (cl : List (Str × Addr)) (fp : List Addr), TgW (X.blk s H scope (compEnvC scope cl C X.env) fp) tg1 g1 vs1) (ht1 : ∀ (s : Shared) (H : Hp) (C : Addr) (cl : List (Str × Addr)) (fp : List Addr), TsD (X.blk s H scope (compEnvC scope cl C X.env) fp) ifs1 t1)
    (he : ∀ (s : Shared) (H : Hp) (C : Addr) (cl : List (Str × Addr)) (fp : List Addr), PD (X.blk s H scope (compEnvC scope cl C X.env) fp) WF elt de) (hs : ∀ x, foldedSetIterable iter X.env x = pure x := by intro _; rfl) (hs1 : ∀ env x, foldedSetIterable iter1 env x = pure x := by intro _ _; rfl) :
    PD X W (.ListComp elt [⟨tg, iter, ifs, 0⟩, ⟨tg1, iter1, ifs1, 0⟩] scope pos) (dLc2 di g t di1 g1 t1 de (own.map (·.2)) vs1) :=
  peImp (pe_lc2 (g := liftGw X.K g (own.map Prod.snd)) (tt := liftT X.K WF t) (wi1 := liftI X.K WF di1) (g1 := liftGw X.K g1 vs1) (tt1 := liftT X.K WF t1) (te := liftE X.K WF de) hc hN hi ok hv hg ht hi1 hg1 ht1 he hs hs1) lift_lc2
end
end DL
set_option maxRecDepth 100000
set_option maxHeartbeats 4000000
namespace DL
open PySem PySem.Spec PyProof.Rows L2
section
variable {M : Mem} {q : QD}
theorem ifB {b : Bool} {A B : Prop} (h1 : b = true → A) (h2 : b = false → B) : if b = true then A else B := by
  cases b with
  | true => exact iteT (h1 rfl)
  | false => exact iteF (h2 rfl)
theorem ifD {p : Prop} [Decidable p] {A B : Prop} (h1 : p → A) (h2 : ¬ p → B) : if decide p = true then A else B := ifB (fun h => h1 (of_decide_eq_true h)) fun h => h2 (of_decide_eq_false h)
theorem ifYes {b : Bool} {A B : Prop} (h : b = true) (h1 : A) : if b = true then A else B := by rw [if_pos h]; exact h1
theorem ifNo {b : Bool} {A B : Prop} (h : b = false) (h1 : B) : if b = true then A else B := by rw [if_neg (by rw [h]; exact Bool.false_ne_true)]; exact h1
theorem ix_cel {c : Addr} {xs : List D} {i : Int} {d : D} (h : M c = some (.ls xs)) (e : atI xs i = some d) (w : q d M) : rdIx (.cel c) (.int i) M q := ⟨xs, i, d, celL_of h, rfl, e, w⟩
theorem ix_lst {xs : List D} {i : Int} {d : D} (e : atI xs i = some d) (w : q d M) : rdIx (.lst xs) (.int i) M q := ⟨xs, i, d, rfl, rfl, e, w⟩
theorem ix_tup {xs : List D} {i : Int} {d : D} (e : atI xs i = some d) (w : q d M) : rdIx (.tup xs) (.int i) M q := ⟨xs, i, d, rfl, rfl, e, w⟩
theorem ix_str {x : Str} {i : Int} {c : Nat} (z : x.length ≤ sizeLine) (e : atI x.cps.toList i = some c) (w : q (.str ⟨#[c]⟩) M) : rdIx (.str x) (.int i) M q := ⟨x, i, c, rfl, rfl, z, e, w⟩
theorem add_int {i j : Int} (w : q (.int (i + j)) M) : rdAdd (.int i) (.int j) M q := w
theorem add_str {a b : Str} (h : a.length + b.length ≤ sizeLine) (w : q (.str (a ++ b)) M) : rdAdd (.str a) (.str b) M q := ⟨h, w⟩
theorem add_tup {a b : List D} (h : a.length + b.length ≤ sizeLine) (w : q (.tup (a ++ b)) M) : rdAdd (.tup a) (.tup b) M q := ⟨h, w⟩
theorem add_lst {x y : D} {a b : List D} (hx : lstOf M x = some a) (hy : lstOf M y = some b) (h : a.length + b.length ≤ sizeLine) (w : q (.lst (a ++ b)) M) : rdAdd x y M q := by
  cases x with
  | lst _ => exact ⟨a, b, hx, hy, h, w⟩
  | cel _ => exact ⟨a, b, hx, hy, h, w⟩
  | _ => cases hx
theorem str_app (a b : Str) : (a ++ b).cps.toList = a.cps.toList ++ b.cps.toList := by
  show (a.cps ++ b.cps).toList = _
  exact Array.toList_append
theorem str_len (a : Str) : a.length = a.cps.toList.length := by
  show a.cps.size = _
  rw [Array.length_toList]
theorem sub_int {i j : Int} (w : q (.int (i - j)) M) : rdSub (.int i) (.int j) M q := ⟨trivial, w⟩
theorem mul_int {i j : Int} (c : IntMulOk i j) (w : q (.int (i * j)) M) : rdMul (.int i) (.int j) M q := ⟨c, w⟩
theorem mul_l {i j : Int} (c : -(2 ^ 64) < i) (c' : i < 2 ^ 64) (w : q (.int (i * j)) M) : rdMul (.int i) (.int j) M q := ⟨CMul.ok (.inl ⟨c, c'⟩), w⟩
theorem mul_r {i j : Int} (c : -(2 ^ 64) < j) (c' : j < 2 ^ 64) (w : q (.int (i * j)) M) : rdMul (.int i) (.int j) M q := ⟨CMul.ok (.inr ⟨c, c'⟩), w⟩
theorem mod_int {i j : Int} (c : 0 < j) (w : q (.int (i % j)) M) : rdMod (.int i) (.int j) M q := ⟨c, w⟩
/-- what is left: some number below -/
theorem mod_any {i j : Int} (c : 0 < j) (w : ∀ r, 0 ≤ r → r < j → q (.int r) M) : rdMod (.int i) (.int j) M q := ⟨c, w _ (Int.emod_nonneg _ (by omega)) (Int.emod_lt_of_pos _ c)⟩
theorem div_int {i j : Int} (c : 0 < j) (c' : j < 1073741824) (w : q (.int (i / j)) M) : rdDiv (.int i) (.int j) M q := ⟨⟨c, c'⟩, w⟩
theorem dm_int {i j : Int} (c : 0 < j) (c' : j < 1073741824) (w : q (.tup [.int (i / j), .int (i % j)]) M) : rdDivmod [.int i, .int j] M q := ⟨⟨c, c'⟩, w⟩
theorem lt_int {i j : Int} (w : q (.bl (decide (i < j))) M) : rdLt (.int i) (.int j) M q := ⟨trivial, w⟩
theorem le_int {i j : Int} (w : q (.bl (decide (i ≤ j))) M) : rdLe (.int i) (.int j) M q := ⟨trivial, w⟩
theorem gt_int {i j : Int} (w : q (.bl (decide (j < i))) M) : rdGt (.int i) (.int j) M q := ⟨trivial, w⟩
theorem ge_int {i j : Int} (w : q (.bl (decide (j ≤ i))) M) : rdGe (.int i) (.int j) M q := ⟨trivial, w⟩
theorem int_int {i : Int} (w : q (.int i) M) : rdInt [.int i] M q := w
theorem len_lst {xs : List D} (w : q (.int xs.length) M) : rdLen [.lst xs] M q := ⟨_, rfl, xs, rfl, w⟩
theorem len_tup {xs : List D} (w : q (.int xs.length) M) : rdLen [.tup xs] M q := ⟨_, rfl, xs, rfl, w⟩
theorem len_cel {c : Addr} {xs : List D} (h : M c = some (.ls xs)) (w : q (.int xs.length) M) : rdLen [.cel c] M q := ⟨_, rfl, xs, celL_of h, w⟩
theorem len_str {x : Str} (z : x.length ≤ sizeLine) (w : q (.int x.length) M) : rdLen [.str x] M q := ⟨_, rfl, z, w⟩
theorem eq_int {i j : Int} (w : q (.bl (decide (i = j))) M) : rdEq (.int i) (.int j) M q := by
  refine .inl ⟨.int i, .int j, rfl, rfl, rfl, rfl, ?_⟩
  have e : PyData.eqv (.int i) (.int j) = decide (i = j) := by
    first
    | rfl
    | (unfold PyData.eqv; rfl)
    | simp [PyData.eqv]
  rw [e]; exact w
theorem eq_str {i j : Str} (hi : PyData.strOk i = true) (hj : PyData.strOk j = true) (w : q (.bl (decide (i = j))) M) : rdEq (.str i) (.str j) M q := .inr ⟨i, j, rfl, rfl, w⟩
theorem ne_strA {i j : Str} (w : q (.bl (!decide (i = j))) M) : rdNe (.str i) (.str j) M q := .inr ⟨i, j, rfl, rfl, w⟩
theorem ne_int {i j : Int} (w : q (.bl (!decide (i = j))) M) : rdNe (.int i) (.int j) M q := by
  refine .inl ⟨.int i, .int j, rfl, rfl, rfl, rfl, ?_⟩
  have e : PyData.eqv (.int i) (.int j) = decide (i = j) := by
    first
    | rfl
    | (unfold PyData.eqv; rfl)
    | simp [PyData.eqv]
  rw [e]; exact w
end
/-- all cells that were there are as they were -/
def Kept (M M' : Mem) : Prop := ∀ c x, M c = some x → M' c = some x
theorem Kept.refl (M : Mem) : Kept M M := fun _ _ h => h
theorem Kept.trans {M M' M'' : Mem} (a : Kept M M') (b : Kept M' M'') : Kept M M'' := fun c x h => b c x (a c x h)
theorem Kept.new {M : Mem} {c : Addr} {x : Cel} (h : M c = none) : Kept M (mset M c x) := fun d y e => by
  by_cases q : d = c
  · subst q; rw [h] at e; cases e
  · rw [mset_ne q]; exact e
theorem Kept.put {M M' : Mem} {c : Addr} {x : Cel} (a : Kept M M') (h : M c = none) : Kept M (mset M' c x) := fun d y e => by
  by_cases q : d = c
  · subst q; rw [h] at e; cases e
  · rw [mset_ne q]; exact a d y e
theorem Kept.del {M M' : Mem} {c : Addr} (a : Kept M M') (h : M c = none) : Kept M (mdel M' c) := fun d y e => by
  by_cases q : d = c
  · subst q; rw [h] at e; cases e
  · unfold mdel; rw [if_neg q]; exact a d y e
/-- .. but one -/
def KeptB (k : Addr) (M M' : Mem) : Prop := ∀ c x, M c = some x → c ≠ k → M' c = some x
theorem KeptB.refl {k : Addr} (M : Mem) : KeptB k M M := fun _ _ h _ => h
theorem KeptB.trans {k : Addr} {M M' M'' : Mem} (a : KeptB k M M') (b : KeptB k M' M'') : KeptB k M M'' := fun c x h n => b c x (a c x h n) n
theorem Kept.b {k : Addr} {M M' : Mem} (a : Kept M M') : KeptB k M M' := fun c x h _ => a c x h
theorem KeptB.self {k : Addr} {M M' : Mem} {x : Cel} (a : KeptB k M M') : KeptB k M (mset M' k x) := fun c y h n => by rw [mset_ne n]; exact a c y h n
theorem KeptB.put {k : Addr} {M M' : Mem} {c : Addr} {x : Cel} (a : KeptB k M M') (h : M c = none) : KeptB k M (mset M' c x) := fun d y e n => by
  by_cases q : d = c
  · subst q; rw [h] at e; cases e
  · rw [mset_ne q]; exact a d y e n
theorem KeptB.del {k : Addr} {M M' : Mem} {c : Addr} (a : KeptB k M M') (h : M c = none) : KeptB k M (mdel M' c) := fun d y e n => by
  by_cases q : d = c
  · subst q; rw [h] at e; cases e
  · unfold mdel; rw [if_neg q]; exact a d y e n
theorem seq_kept {k : Addr} {M M' : Mem} {d : D} {xs : List D} (h : KeptB k M M') (n : d ≠ .cel k) (e : seqOf M d = some xs) : seqOf M' d = some xs := by
  cases d with
  | cel c => exact celL_of (h c _ (celL_eq e) fun z => n (by rw [z]))
  | lst _ => exact e
  | lsf _ => exact e
  | tup _ => exact e
  | _ => cases e
theorem lsq_kept {k : Addr} {M M' : Mem} {d : D} {xs : List D} (h : KeptB k M M') (n : d ≠ .cel k) (e : lsqOf M d = some xs) : lsqOf M' d = some xs := by
  cases d with
  | cel c => exact celL_of (h c _ (celL_eq e) fun z => n (by rw [z]))
  | lst _ => exact e
  | lsf _ => exact e
  | _ => cases e
theorem lsq_seq {M : Mem} {d : D} {xs : List D} (e : lsqOf M d = some xs) : seqOf M d = some xs := by
  cases d with
  | cel c => exact e
  | lst _ => exact e
  | lsf _ => exact e
  | _ => cases e
theorem len_seq {M : Mem} {q : QD} {d : D} {xs : List D} (e : seqOf M d = some xs) (w : q (.int xs.length) M) : rdLen [d] M q := by
  refine ⟨d, rfl, ?_⟩
  cases d with
  | str _ => cases e
  | _ => exact ⟨xs, e, w⟩
theorem ix_seq {M : Mem} {q : QD} {d : D} {xs : List D} {i : Int} {x : D} (e : seqOf M d = some xs) (h : atI xs i = some x) (w : q x M) : rdIx d (.int i) M q := by
  cases d with
  | str _ => cases e
  | _ => exact ⟨xs, i, x, e, rfl, h, w⟩
theorem atI_in {α : Type} {xs : List α} {i : Int} (h0 : 0 ≤ i) (h1 : i < xs.length) : ∃ x, atI xs i = some x ∧ x ∈ xs := by
  obtain ⟨n, rfl⟩ := Int.eq_ofNat_of_zero_le h0
  have hn : n < xs.length := by omega
  refine ⟨xs[n], ?_, List.getElem_mem hn⟩
  unfold atI ixN
  rw [if_pos h0, if_pos h1]
  exact List.getElem?_eq_getElem hn
theorem atI_nat {α : Type} {xs : List α} {n : Nat} {x : α} (h : xs[n]? = some x) : atI xs (n : Int) = some x := by
  have hn := (List.getElem?_eq_some_iff.mp h).1
  unfold atI ixN
  rw [if_pos (Int.natCast_nonneg n), if_pos (by omega)]
  exact h
theorem atI_zero {α : Type} {x : α} {xs : List α} : atI (x :: xs) 0 = some x := atI_nat (n := 0) rfl
section
variable {ok : Mem → Prop} {g : GD} {body : DS} {d : EndD} {xs : List D}
/-- a loop over a list: I i: ahead of the i-th turn -/
theorem for_lst (I : Nat → EnvD → Mem → Prop) (h0 : ∀ env M, I xs.length env M → ok M ∧ d.nx env M)
    (hs : ∀ i x env M, xs[i]? = some x → I i env M → ∀ nx : EnvD → Mem → Prop, (∀ env' M', I (i + 1) env' M' → nx env' M') → ok M ∧ g x env M (fun env' M' => body { d with nx := nx, ct := nx, bk := d.nx } env' M') d.ex) (env : EnvD) (M : Mem) (h : I 0 env M) : forW ok g body d xs env M := by
  have : ∀ (r : List D) (i : Nat) env M, r = xs.drop i → i ≤ xs.length → I i env M → forW ok g body d r env M := by
    intro r
    induction r with
    | nil =>
      intro i env M e hi hI
      have : i = xs.length := by
        have := congrArg List.length e
        rw [List.length_nil, List.length_drop] at this
        omega
      subst this
      exact h0 env M hI
    | cons x r ih =>
      intro i env M e hi hI
      have hlt : i < xs.length := by
        have := congrArg List.length e
        rw [List.length_cons, List.length_drop] at this
        omega
      rw [List.drop_eq_getElem_cons hlt] at e
      injection e with e1 e2
      exact hs i x env M (by rw [e1]; exact List.getElem?_eq_getElem hlt) hI _ fun env' M' h' => ih (i + 1) env' M' e2 hlt h'
  exact this xs 0 env M rfl (Nat.zero_le _) h
theorem for_rng {lo : Int} {n : Nat} (I : Nat → EnvD → Mem → Prop) (h0 : ∀ env M, I n env M → ok M ∧ d.nx env M)
    (hs : ∀ i env M, i < n → I i env M → ∀ nx : EnvD → Mem → Prop, (∀ env' M', I (i + 1) env' M' → nx env' M') → ok M ∧ g (.int (lo + (i : Nat))) env M (fun env' M' => body { d with nx := nx, ct := nx, bk := d.nx } env' M') d.ex) (env : EnvD) (M : Mem) (h : I 0 env M) : forW ok g body d (rngD lo n) env M := by
  have hl : (rngD lo n).length = n := by unfold rngD; rw [List.length_map, List.length_range]
  refine for_lst I (by rw [hl]; exact h0) (fun i x env M hx hI nx hn => ?_) env M h
  unfold rngD at hx
  rw [List.getElem?_map] at hx
  obtain ⟨j, hj, rfl⟩ := omap hx
  obtain ⟨h1, h2⟩ := List.getElem?_eq_some_iff.mp hj
  rw [List.length_range] at h1
  rw [List.getElem_range] at h2
  subst h2
  exact hs i env M h1 hI nx hn
end
section
variable {ok : Mem → Prop} {g : GD} {t : DT} {de : DE} {env : EnvD} {q : QD} {c : Addr} {xs : List D}
theorem lc_lst (I : Nat → Mem → Prop) (h0 : ∀ M, I xs.length M → ok M ∧ ∃ ys, M c = some (.ls ys) ∧ q (.lst ys) (mdel M c))
    (hs : ∀ i x M, xs[i]? = some x → I i M → ∀ nx : Mem → Prop, (∀ M', I (i + 1) M' → nx M') →
      ok M ∧ g x env M (fun env' M' => t env' M' (fun b M2 => if b = true then de env' M2 (fun y M3 => ∃ ys, M3 c = some (.ls ys) ∧ ys.length < sizeLine ∧ nx (mset M3 c (.ls (ys ++ [y])))) noX else nx M2) noX) (fun _ => noX)) (M : Mem) (h : I 0 M) : lcW ok g t de env q c xs M := by
  have : ∀ (r : List D) (i : Nat) M, r = xs.drop i → i ≤ xs.length → I i M → lcW ok g t de env q c r M := by
    intro r
    induction r with
    | nil =>
      intro i M e hi hI
      have : i = xs.length := by
        have := congrArg List.length e
        rw [List.length_nil, List.length_drop] at this
        omega
      subst this
      exact h0 M hI
    | cons x r ih =>
      intro i M e hi hI
      have hlt : i < xs.length := by
        have := congrArg List.length e
        rw [List.length_cons, List.length_drop] at this
        omega
      rw [List.drop_eq_getElem_cons hlt] at e
      injection e with e1 e2
      exact hs i x M (by rw [e1]; exact List.getElem?_eq_getElem hlt) hI _ fun M' h' => ih (i + 1) M' e2 hlt h'
  exact this xs 0 M rfl (Nat.zero_le _) h
/-- nothing but the new list changes: which items are taken, what is made of them -/
theorem lc_pure {M : Mem} (p : D → Bool) (f : D → D) (hc : M c = none) (hn : xs.length ≤ sizeLine) (hok : ∀ acc, ok (mset M c (.ls acc)))
    (hs : ∀ x, x ∈ xs → ∀ (acc : List D), acc.length < sizeLine → ∀ nx : Mem → Prop, (p x = true → nx (mset M c (.ls (acc ++ [f x])))) → (p x = false → nx (mset M c (.ls acc))) →
      g x env (mset M c (.ls acc)) (fun env' M' => t env' M' (fun b M2 => if b = true then de env' M2 (fun y M3 => ∃ ys, M3 c = some (.ls ys) ∧ ys.length < sizeLine ∧ nx (mset M3 c (.ls (ys ++ [y])))) noX else nx M2) noX) (fun _ => noX))
    (hq : q (.lst ((xs.filter p).map f)) M) : lcW ok g t de env q c xs (mset M c (.ls [])) := by
  refine lc_lst (fun i M' => M' = mset M c (.ls (((xs.take i).filter p).map f))) (fun M' e => ?_) (fun i x M' hx e nx hnx => ?_) _ (by rw [List.take_zero]; rfl)
  · subst e
    rw [List.take_length]
    refine ⟨hok _, _, mset_same, ?_⟩
    rw [mdel_mset hc]
    exact hq
  · subst e
    have hlt := (List.getElem?_eq_some_iff.mp hx).1
    have e1 : xs.take (i + 1) = xs.take i ++ [x] := by
      rw [List.take_succ, hx]; rfl
    refine ⟨hok _, hs x (List.mem_of_getElem? hx) _ ?_ nx (fun hp => hnx _ ?_) fun hp => hnx _ ?_⟩
    · rw [List.length_map]
      have := List.length_filter_le p (xs.take i)
      rw [List.length_take] at this
      omega
    · rw [e1, List.filter_append, List.map_append]
      have : ([x] : List D).filter p = [x] := by simp [hp]
      rw [this]; rfl
    · rw [e1, List.filter_append]
      have : ([x] : List D).filter p = [] := by simp [hp]
      rw [this, List.append_nil]
theorem in_lst {ok : Mem → Prop} {g : GD} {t : DT} {de : DE} {env : EnvD} {c : Addr} {nx0 : Mem → Prop} {xs : List D} (I : Nat → Mem → Prop) (h0 : ∀ M, I xs.length M → ok M ∧ nx0 M)
    (hs : ∀ i x M, xs[i]? = some x → I i M → ∀ nx : Mem → Prop, (∀ M', I (i + 1) M' → nx M') →
      ok M ∧ g x env M (fun env' M' => t env' M' (fun b M2 => if b = true then de env' M2 (fun y M3 => ∃ ys, M3 c = some (.ls ys) ∧ ys.length < sizeLine ∧ nx (mset M3 c (.ls (ys ++ [y])))) noX else nx M2) noX) (fun _ => noX)) (M : Mem) (h : I 0 M) : inW ok g t de env c nx0 xs M := by
  have : ∀ (r : List D) (i : Nat) M, r = xs.drop i → i ≤ xs.length → I i M → inW ok g t de env c nx0 r M := by
    intro r
    induction r with
    | nil =>
      intro i M e hi hI
      have : i = xs.length := by
        have := congrArg List.length e
        rw [List.length_nil, List.length_drop] at this
        omega
      subst this
      exact h0 M hI
    | cons x r ih =>
      intro i M e hi hI
      have hlt : i < xs.length := by
        have := congrArg List.length e
        rw [List.length_cons, List.length_drop] at this
        omega
      rw [List.drop_eq_getElem_cons hlt] at e
      injection e with e1 e2
      exact hs i x M (by rw [e1]; exact List.getElem?_eq_getElem hlt) hI _ fun M' h' => ih (i + 1) M' e2 hlt h'
  exact this xs 0 M rfl (Nat.zero_le _) h
theorem lc2_lst {ok : Mem → Prop} {g : GD} {t : DT} {di1 : DI} {g1 : GD} {t1 : DT} {de : DE} {vs1 : List Nat} {env : EnvD} {q : QD} {c : Addr} {xs : List D} (I : Nat → Mem → Prop) (h0 : ∀ M, I xs.length M → ok M ∧ ∃ ys, M c = some (.ls ys) ∧ q (.lst ys) (mdel M c))
    (hs : ∀ i x M, xs[i]? = some x → I i M → ∀ nx : Mem → Prop, (∀ M', I (i + 1) M' → nx M') →
      ok M ∧ g x env M (fun env' M' => t env' M' (fun b M2 => if b = true then di1 env' M2 (fun items1 ok1 M3 => inW ok1 g1 t1 de (wipeD env' vs1) c (fun M4 => nx M4) items1 M3) noX else nx M2) noX) (fun _ => noX)) (M : Mem) (h : I 0 M) : lc2W ok g t di1 g1 t1 de vs1 env q c xs M := by
  have : ∀ (r : List D) (i : Nat) M, r = xs.drop i → i ≤ xs.length → I i M → lc2W ok g t di1 g1 t1 de vs1 env q c r M := by
    intro r
    induction r with
    | nil =>
      intro i M e hi hI
      have : i = xs.length := by
        have := congrArg List.length e
        rw [List.length_nil, List.length_drop] at this
        omega
      subst this
      exact h0 M hI
    | cons x r ih =>
      intro i M e hi hI
      have hlt : i < xs.length := by
        have := congrArg List.length e
        rw [List.length_cons, List.length_drop] at this
        omega
      rw [List.drop_eq_getElem_cons hlt] at e
      injection e with e1 e2
      exact hs i x M (by rw [e1]; exact List.getElem?_eq_getElem hlt) hI _ fun M' h' => ih (i + 1) M' e2 hlt h'
  exact this xs 0 M rfl (Nat.zero_le _) h
theorem acc_put {M : Mem} {acc : List D} {y : D} {nx : Mem → Prop} (hz : acc.length < sizeLine) (h : nx (mset M c (.ls (acc ++ [y])))) : ∃ ys, (mset M c (.ls acc)) c = some (.ls ys) ∧ ys.length < sizeLine ∧ nx (mset (mset M c (.ls acc)) c (.ls (ys ++ [y]))) :=
  ⟨acc, mset_same, hz, by rw [mset_mset]; exact h⟩
end
theorem flats_str : ∀ xs : List Str, flats (xs.map D.str) = some (xs.map V.str)
  | [] => rfl
  | x :: xs => by
    show (match flat (.str x), flats (xs.map D.str) with | some v, some vs => some (v :: vs) | _, _ => none) = _
    rw [flats_str xs]; rfl
theorem flats_int : ∀ xs : List Int, flats (xs.map D.int) = some (xs.map V.int)
  | [] => rfl
  | x :: xs => by
    show (match flat (.int x), flats (xs.map D.int) with | some v, some vs => some (v :: vs) | _, _ => none) = _
    rw [flats_int xs]; rfl
theorem inV_str (x : Str) : ∀ xs : List Str, inV (.str x) (xs.map V.str) = decide (x ∈ xs)
  | [] => by simp [inV]
  | y :: ys => by
    have ih := inV_str x ys
    unfold inV at ih ⊢
    rw [List.map_cons, List.any_cons, ih]
    show ((y == x) || decide (x ∈ ys)) = _
    by_cases e : y = x
    · subst e; simp
    · simp [e, Ne.symm e]
theorem inV_int (x : Int) : ∀ xs : List Int, inV (.int x) (xs.map V.int) = decide (x ∈ xs)
  | [] => by simp [inV]
  | y :: ys => by
    have ih := inV_int x ys
    unfold inV at ih ⊢
    rw [List.map_cons, List.any_cons, ih]
    show ((y == x) || decide (x ∈ ys)) = _
    by_cases e : y = x
    · subst e; simp
    · simp [e, Ne.symm e]
section
variable {M : Mem} {q : QD}
theorem in_q {neg : Bool} {x d : D} {xs : List D} {v : V} {vs : List V} (e : seqOf M d = some xs) (ex : flat x = some v) (es : flats xs = some vs) (w : q (.bl (if neg then !inV v vs else inV v vs)) M) : rdIn neg x d M q := by
  cases d with
  | str _ => cases e
  | _ => exact ⟨xs, v, vs, e, ex, es, w⟩
theorem in_str {x : Str} {d : D} {xs : List Str} (e : seqOf M d = some (xs.map D.str)) (w : q (.bl (decide (x ∈ xs))) M) : rdIn false (.str x) d M q :=
  in_q e rfl (flats_str xs) (by rw [inV_str]; exact w)
theorem ni_str {x : Str} {d : D} {xs : List Str} (e : seqOf M d = some (xs.map D.str)) (w : q (.bl (!decide (x ∈ xs))) M) : rdIn true (.str x) d M q :=
  in_q e rfl (flats_str xs) (by rw [inV_str]; exact w)
theorem in_int {x : Int} {d : D} {xs : List Int} (e : seqOf M d = some (xs.map D.int)) (w : q (.bl (decide (x ∈ xs))) M) : rdIn false (.int x) d M q :=
  in_q e rfl (flats_int xs) (by rw [inV_int]; exact w)
theorem ni_int {x : Int} {d : D} {xs : List Int} (e : seqOf M d = some (xs.map D.int)) (w : q (.bl (!decide (x ∈ xs))) M) : rdIn true (.int x) d M q :=
  in_q e rfl (flats_int xs) (by rw [inV_int]; exact w)
theorem shL0 : SeqAt.shaped (.list []) = true := by
  unfold SeqAt.shaped
  simp [PyData.canLay0, PyData.canLayAll0, PyData.depth, PyData.depthAll]
theorem ne_nil {d : D} {p : List PyData} (e : pyOf M d = some (.list p)) (hs : SeqAt.shaped (.list p) = true) (w : q (.bl (!p.isEmpty)) M) : rdNe d (.lst []) M q := by
  refine .inl ⟨.list p, .list [], e, rfl, hs, shL0, ?_⟩
  have : PyData.eqv (.list p) (.list []) = p.isEmpty := by
    cases p <;> simp [PyData.eqv, PyData.eqvAll]
  rw [this]; exact w
theorem toPys_str : ∀ xs : List Str, toPys (xs.map D.str) = some (xs.map PyData.str)
  | [] => rfl
  | x :: xs => by
    show (match toPy (.str x), toPys (xs.map D.str) with | some p, some ps => some (p :: ps) | _, _ => none) = _
    rw [toPys_str xs]; rfl
theorem toPys_int : ∀ xs : List Int, toPys (xs.map D.int) = some (xs.map PyData.int)
  | [] => rfl
  | x :: xs => by
    show (match toPy (.int x), toPys (xs.map D.int) with | some p, some ps => some (p :: ps) | _, _ => none) = _
    rw [toPys_int xs]; rfl
theorem shStrs {xs : List Str} (h : ∀ x ∈ xs, PyData.strOk x = true) : SeqAt.shaped (.list (xs.map PyData.str)) = true ∧ SeqAt.shaped (.tuple (xs.map PyData.str)) = true := by
  have a : PyData.canLayAll0 (xs.map PyData.str) = true := by
    induction xs with
    | nil => rfl
    | cons x xs ih =>
      rw [List.map_cons]
      show (PyData.canLay0 (.str x) && PyData.canLayAll0 (xs.map PyData.str)) = true
      rw [ih fun y hy => h y (List.mem_cons_of_mem _ hy)]
      simp [PyData.canLay0, h x List.mem_cons_self]
  have b : PyData.depthAll (xs.map PyData.str) = 0 := by
    clear a h
    induction xs with
    | nil => rfl
    | cons x xs ih => rw [List.map_cons]; simp [PyData.depthAll, PyData.depth, ih]
  constructor
  · unfold SeqAt.shaped; simp [PyData.canLay0, PyData.depth, a, b]
  · unfold SeqAt.shaped; simp [PyData.canLay0, PyData.depth, a, b]
theorem shInts (xs : List Int) : SeqAt.shaped (.list (xs.map PyData.int)) = true := by
  have a : PyData.canLayAll0 (xs.map PyData.int) = true := by
    induction xs with
    | nil => rfl
    | cons x xs ih =>
      rw [List.map_cons]
      show (PyData.canLay0 (.int x) && PyData.canLayAll0 (xs.map PyData.int)) = true
      rw [ih]
      simp [PyData.canLay0]
  have b : PyData.depthAll (xs.map PyData.int) = 0 := by
    clear a
    induction xs with
    | nil => rfl
    | cons x xs ih => rw [List.map_cons]; simp [PyData.depthAll, PyData.depth, ih]
  unfold SeqAt.shaped; simp [PyData.canLay0, PyData.depth, a, b]
theorem cut_to {α : Type} (xs : List α) (n : Nat) : cutD xs none (some (n : Int)) = xs.take n := by
  unfold cutD
  rw [HT.sIx_none, HT.sIx_nat, Nat.sub_zero, List.drop_zero]
  by_cases h : n ≤ xs.length
  · rw [Nat.min_eq_left h]
  · rw [Nat.min_eq_right (by omega), List.take_of_length_le (Nat.le_refl _), List.take_of_length_le (by omega)]
theorem cut_from {α : Type} (xs : List α) (n : Nat) : cutD xs (some (n : Int)) none = xs.drop n := by
  unfold cutD
  rw [HT.sIx_none, HT.sIx_nat]
  by_cases h : n ≤ xs.length
  · rw [Nat.min_eq_left h, List.take_of_length_le (by rw [List.length_drop]; omega)]
  · rw [Nat.min_eq_right (by omega), List.drop_of_length_le (Nat.le_refl _), List.drop_of_length_le (by omega), List.take_nil]
theorem sl_lst {xs : List D} {n : Nat} (w : q (.lst (xs.take n)) M) : rdSl (.lst xs) none (some (n : Int)) M q := ⟨xs, rfl, by rw [cut_to]; exact w⟩
theorem sl_tup {xs : List D} {n : Nat} (w : q (.tup (xs.take n)) M) : rdSl (.tup xs) none (some (n : Int)) M q := by
  show q (.tup (cutD xs none (some (n : Int)))) M
  rw [cut_to]; exact w
theorem slf_tup {xs : List D} {n : Nat} (w : q (.tup (xs.drop n)) M) : rdSl (.tup xs) (some (n : Int)) none M q := by
  show q (.tup (cutD xs (some (n : Int)) none)) M
  rw [cut_from]; exact w
theorem sl_cel {c : Addr} {xs : List D} {n : Nat} (h : M c = some (.ls xs)) (w : q (.lst (xs.take n)) M) : rdSl (.cel c) none (some (n : Int)) M q := ⟨xs, celL_of h, by rw [cut_to]; exact w⟩
theorem sl_str {x : Str} {n : Nat} (z : x.length ≤ sizeLine) (w : ∀ y : Str, y.cps.toList = x.cps.toList.take n → q (.str y) M) : rdSl (.str x) none (some (n : Int)) M q := by
  refine ⟨z, w _ ?_⟩
  have e : (cutS x none (some (n : Int))).cps.toList = cutD x.cps.toList none (some (n : Int)) := by
    unfold cutS cutD
    rw [str_len]
  rw [e, cut_to]
end
section
variable {M : Mem} {q : QD}
theorem min_int {i j : Int} (w : ∀ m, m ≤ i → m ≤ j → (m = i ∨ m = j) → q (.int m) M) : rdMin2 [.int i, .int j] M q := by
  show q (.int (if j < i then j else i)) M
  by_cases h : j < i
  · rw [if_pos h]; exact w j (by omega) (by omega) (.inr rfl)
  · rw [if_neg h]; exact w i (by omega) (by omega) (.inl rfl)
theorem max_int {i j : Int} (w : ∀ m, i ≤ m → j ≤ m → (m = i ∨ m = j) → q (.int m) M) : rdMax2 [.int i, .int j] M q := by
  show q (.int (if j > i then j else i)) M
  by_cases h : j > i
  · rw [if_pos h]; exact w j (by omega) (by omega) (.inr rfl)
  · rw [if_neg h]; exact w i (by omega) (by omega) (.inl rfl)
theorem sl_lsf {xs : List D} {n : Nat} (w : q (.lst (xs.take n)) M) : rdSl (.lsf xs) none (some (n : Int)) M q := ⟨xs, rfl, by rw [cut_to]; exact w⟩
theorem pow_int {i j : Int} (c : CPow i j) (w : q (.int (i ^ j.toNat)) M) : rdPow (.int i) (.int j) M q := ⟨c, w⟩
theorem in_sign {c : Nat} {z : Str} (w : q (.bl (decide (c ∈ z.cps.toList))) M) : rdIn false (.str ⟨#[c]⟩) (.str z) M q := ⟨c, rfl, w⟩
theorem bls_all {b : Bool} : ∀ {xs : List D}, (∀ x ∈ xs, x = .bl b) → bls xs = some (xs.map fun _ => b)
  | [], _ => rfl
  | x :: xs, h => by
    have e := h x List.mem_cons_self
    subst e
    show (bls xs).map (b :: ·) = _
    rw [bls_all fun y hy => h y (List.mem_cons_of_mem _ hy)]
    rfl
theorem all_true {xs : List D} (h : ∀ x ∈ xs, x = .bl true) (w : q (.bl true) M) : rdAll [.lst xs] M q := by
  refine ⟨_, xs, _, rfl, rfl, bls_all h, ?_⟩
  have : (xs.map fun _ => true).all id = true := by simp
  rw [this]; exact w
theorem any_false {xs : List D} (h : ∀ x ∈ xs, x = .bl false) (w : q (.bl false) M) : rdAny [.lst xs] M q := by
  refine ⟨_, xs, _, rfl, rfl, bls_all h, ?_⟩
  have : (xs.map fun _ => false).any id = false := by simp
  rw [this]; exact w
end
/-- no more than the other has, if all are there and none twice -/
theorem nodup_len {α : Type} [DecidableEq α] : ∀ {xs ys : List α}, xs.Nodup → (∀ x ∈ xs, x ∈ ys) → xs.length ≤ ys.length
  | [], _, _, _ => Nat.zero_le _
  | x :: xs, ys, hn, h => by
    have hx := h x List.mem_cons_self
    obtain ⟨hn1, hn2⟩ := List.nodup_cons.mp hn
    have h2 : xs.length ≤ (ys.erase x).length := nodup_len hn2 fun y hy => by
      have hne : y ≠ x := fun e => hn1 (e ▸ hy)
      exact (List.mem_erase_of_ne hne).mpr (h y (List.mem_cons_of_mem _ hy))
    rw [List.length_erase_of_mem hx] at h2
    have : 0 < ys.length := List.length_pos_of_mem hx
    rw [List.length_cons]
    omega
end DL
set_option maxRecDepth 100000
set_option maxHeartbeats 4000000
namespace DL
open PySem PySem.Spec PyProof.Rows L2
def Pok (P : Program) (w : World) (K : PySem.W.Frag) (mg : Str → Option Value) (base : Heap) (C : Addr) (f : Str) (k : Nat) (sd : SpD) : Prop :=
  Cls K C ∧ ∃ (p g : Addr) (fd : FuncData) (ps : List Str), PropOf K C f p g ∧ Binds K fd ps [] ∧ FnOk P w K mg base (L2.CX P w) k g fd ps (spOf K 1 sd)
section
variable {X : Cx} {W : WX}
@[reducible] def dProp (C : Addr) (sd : SpD) (de : DE) : DE := fun env M q E => de env M (fun o M1 => ∃ fs, fsOf M1 C o = some fs ∧ sd [o] M1 q noX) E
theorem pd_prop {k : Nat} {C : Addr} {f : Str} {sd : SpD} {e : Expr} {de : DE} {pos : Pos} (F : Pok X.prog X.w X.K X.mg X.base C f k sd) (hr : Room (k + 1) X.A) (he : PD X W e de) (hab : attributeBase e f X.env (eval e X.env) = eval e X.env := by rfl) :
    PD X W (.Attribute e f pos) (dProp C sd de) := by
  obtain ⟨c, p, g, fd, ps, hp, hb, F⟩ := F
  exact peImp (pe_prop he c hp F hr hb .nil passL hab) fun σ H Q ⟨env, M, q, E, H0, so, S, h, k, kx⟩ => goE so S h kx fun x dx H1 H' M1 e1 so1 S1 rx ⟨fs, ef, w⟩ kx1 => by
    obtain ⟨a, d, fvs, rfl, q1, r⟩ := S1.obj rx ef
    exact ⟨a, d, fvs, rfl, q1, [dx], M1, q, noX, H1, rfl, .cons rx .nil, S1, w, k.mono e1, kx0⟩
def permL {α : Type} (pm : List Nat) (xs : List α) : List α := pm.filterMap fun i => xs[i]?
theorem permL_vals {xs : List V} {us : List Value} (r : Vals xs us) : ∀ pm : List Nat, Vals (permL pm xs) (permL pm us)
  | [] => .nil
  | i :: pm => by
    have ih := permL_vals r pm
    unfold permL at ih ⊢
    rw [List.filterMap_cons, List.filterMap_cons]
    cases hx : xs[i]? with
    | none =>
      have : us[i]? = none := by rw [List.getElem?_eq_none_iff] at hx ⊢; rw [← r.length]; exact hx
      rw [this]; exact ih
    | some x =>
      obtain ⟨u, hu, ru⟩ := r.get hx
      rw [hu]
      exact .cons ru ih
theorem permL_dn {K : PySem.W.Frag} {H : Hp} {vs : List V} {ds : List D} (r : DnL K H vs ds) : ∀ pm : List Nat, DnL K H (permL pm vs) (permL pm ds)
  | [] => .nil
  | i :: pm => by
    have ih := permL_dn r pm
    unfold permL at ih ⊢
    rw [List.filterMap_cons, List.filterMap_cons]
    cases hx : vs[i]? with
    | none =>
      have : ds[i]? = none := by rw [List.getElem?_eq_none_iff] at hx ⊢; rw [← r.length]; exact hx
      rw [this]; exact ih
    | some x =>
      obtain ⟨u, hu, ru⟩ := r.getV hx
      rw [hu]
      exact .cons ru ih
def KwPm (fd : FuncData) (ps : List Str) (ks : List Str) (pm : List Nat) : Prop := ∀ (s : Shared) (us ws : List Value), us.length = 1 → ws.length = ks.length → BindsTo s fd ⟨us, ks.zip ws⟩ (ps.zip (us ++ permL pm ws))
def KokP (P : Program) (w : World) (K : PySem.W.Frag) (mg : Str → Option Value) (base : Heap) (x : Str) (C : Addr) (k n : Nat) (ks : List Str) (pm : List Nat) (sd : SpD) : Prop :=
  ∃ (f : Addr) (fd : FuncData) (ps : List Str), mg x = some (.ref C) ∧ Mk K C f ∧ KwPm fd ps ks pm ∧ FnOk P w K mg base (L2.CX P w) k f fd ps (spOf K n sd)
@[reducible] def dMakeP (C : Addr) (n : Nat) (ks : List Str) (pm : List Nat) (sd : SpD) (da : DA) : DE := fun env M q E => da env M (fun ds M1 => ds.length = ks.length ∧ (permL pm ds).length + 1 = n ∧ ∀ c, M1 c = none → sd (.cel c :: permL pm ds) (mset M1 c (.ob C [])) (fun v M2 => v = .non ∧ ∃ fs, M2 c = some (.ob C fs) ∧ q (.ins C (fs.map (·.1)) (fs.map (·.2))) (mdel M2 c)) E) E
theorem run_makeP {k n : Nat} {C f : Addr} {fd : FuncData} {ps ks : List Str} {pm : List Nat} {sd : SpD} {pins : List (Addr × Obj)} {σ : L2.St} {H : Hp} {s : Shared} {Q : VK} {us : List Value} {vs : List V} (Mm : Mk X.K C f) (F : FnOk X.prog X.w X.K X.mg X.base (L2.CX X.prog X.w) k f fd ps (spOf X.K n sd))
    (hr : Room (k + 1) X.A) (hb : KwPm fd ps ks pm) (tk : Takes X W) (I : Inv X pins σ H s) (r : Vals vs us) (hl : vs.length = ks.length)
    (h : ∀ x dx, H x = none → H dx = none → dx ≠ x → spOf X.K n sd (.ref x :: permL pm vs) (upd (upd H dx (.own x)) x (.ins C dx [])) (fun v H2 => v = .non ∧ Q (.ref x) H2) (WE W σ)) :
    wpAny (model X.prog X.w) X.A (call (.ref C) [] (ks.zip us)) (EP X pins σ Q) X.xe s := by
  have hq := h (s.heap.objs.size + 1) s.heap.objs.size (I.hok.fresh (Nat.le_succ _)) (I.hok.fresh (Nat.le_refl _)) (Nat.ne_of_lt (Nat.lt_succ_self _))
  have I2 := Inv.made (C := C) I
  have r2 : Vals (V.ref (s.heap.objs.size + 1) :: permL pm vs) (Value.ref (s.heap.objs.size + 1) :: permL pm us) := .cons rfl (permL_vals r pm)
  refine wpAny_call (make_map (f := f) I.kIn Mm.makes Mm.init (beq_iff_eq.mp Mm.fn) (codeAny_mono (F.run _ X.stack _ _ ⟨[Value.ref (s.heap.objs.size + 1)], ks.zip us⟩ (Value.ref (s.heap.objs.size + 1) :: permL pm us) _ _ (WE W σ) (hr.make C [] (ks.zip us))
    (I2.env0.make C [] (ks.zip us)) (hb _ [Value.ref (s.heap.objs.size + 1)] us rfl (by rw [← r.length]; exact hl)) r2 hq) fun r s' hq' => ?_))
  cases r with
  | error e => exact passAt tk σ pins _ _ e s' I2 hq'
  | ok fl =>
    cases fl with
    | ret u =>
      obtain ⟨v, H', I3, rv, ev, q3⟩ := I2.after hq'
      subst ev
      exact ⟨rv, ⟨V.ref (s.heap.objs.size + 1), H', I3, rfl, q3⟩⟩
    | next => exact False.elim hq'
    | brk => exact False.elim hq'
    | cont => exact False.elim hq'
theorem pd_makeP {k n : Nat} {C : Addr} {x : Str} {ks : List Str} {pm : List Nat} {sd : SpD} {kws : List Keyword} {da : DA} {p pos : Pos} (F : KokP X.prog X.w X.K X.mg X.base x C k n ks pm sd) (hr : Room (k + 1) X.A) (tk : Takes X W) (ha : KD X W kws da) (hg : Gl X x := by rfl)
    (hall : (backToKw pos (keywordEach kws X.env)).all (·.1.isSome) = true := by rfl) (hks : (backToKw pos (keywordEach kws X.env)).filterMap (·.1) = ks := by rfl) (hdb : (x == ("__debug__" : Str)) = false := by decide)
    (hpl : ((backTo pos (starEach [] X.env)).any (·.1) || (backToKw pos (keywordEach kws X.env)).any (·.1.isNone)) = false := by rfl) : PD X W (.Call (.Name x p) [] kws pos) (dMakeP C n ks pm sd da) := by
  obtain ⟨f, fd, ps, hm, Mm, hb, F⟩ := F
  constructor
  intro pins s σ H Q I ⟨env, M, q, E, H0, so, S, h, kq, kx⟩
  refine wpAny_Call_Name_kw (ld_glob I hg hm ?_ hdb)
  refine PySem.W.callWith_KW0 (h₀ := X.base) I.ok.mod.kin Mm.kp hall (wpAny_mono (PK.run (t := liftA X.K W da) ha pos pins s σ H (fun vs H1 => vs.length = ks.length ∧ ∀ x dx, H1 x = none → H1 dx = none → dx ≠ x → spOf X.K n sd (.ref x :: permL pm vs) (upd (upd H1 dx (.own x)) x (.ins C dx [])) (fun v H2 => v = .non ∧ Q (.ref x) H2) (WE W σ)) I
    (goA so S h kx fun vs ds H1 H' M1 e1 so1 S1 rs ⟨hl, hn, w⟩ kx1 => ⟨by rw [rs.length]; exact hl, fun x dx hx hd ne => ?_⟩)) (fun us s1 ⟨vs, H1, I1, r, hl, q1⟩ => ⟨I1.kIn, ?_⟩) fun _ _ z => z) hpl
  · refine ⟨.cel x :: permL pm ds, _, _, E, H1, hn, .cons (.cel x) (permL_dn rs pm), made_D S1 hx hd ne, w x (S1.fresh hx).2, fun v d H2 H2' M2 e2 S2 rv ⟨ev, fs, em, z⟩ => ?_, kx1⟩
    subst ev
    refine ⟨rv.inv_non, ?_⟩
    obtain ⟨o, n0, S3, r3⟩ := S2.freezeO em
    exact kq _ _ _ H2' _ ((e1.trans e2).trans (Ext.add n0)) S3 r3 z
  · rw [hks]
    exact run_makeP Mm F hr hb tk I1 r hl q1
@[reducible] def dMakeL (i : Nat) (C : Addr) (n : Nat) (sd : SpD) (da : DA) : DE := fun env M q E => env[i]? = some (some (.cel C)) ∧ dMake C n sd da env M q E
theorem pd_makeL {k n i : Nat} {C : Addr} {x y : Str} {sd : SpD} {e : Expr} {es : List Expr} {da : DA} {p pos : Pos} (F : Kok X.prog X.w X.K X.mg X.base y C k n sd) (hr : Room (k + 1) X.A) (tk : Takes X W) (ha : AD X W (e :: es) da) (hN : X.N[i]? = some x := by rfl)
    (hv : Vis X.env.scope x := by first | exact Or.inl rfl | exact Or.inr (Or.inl rfl) | exact Or.inr (Or.inr rfl)) (hdb : (x == ("__debug__" : Str)) = false := by decide) (hcd : (x == ("__classdict__" : Str)) = false := by decide)
    (he : starEach (e :: es) X.env = (false, eval e X.env) :: starEach es X.env := by rfl) (hpl : (backTo pos (starEach es X.env)).any (·.1) = false := by rfl) : PD X W (.Call (.Name x p) (e :: es) [] pos) (dMakeL i C n sd da) := by
  obtain ⟨f, fd, ps, hm, Mm, hb, F⟩ := F
  constructor
  intro pins s σ H Q I ⟨env, M, q, E, H0, so, S, ⟨hi, h⟩, kq, kx⟩
  obtain ⟨v0, hv0, rv0⟩ := so.get i _ hi
  have ev0 := rv0.inv_cel
  subst ev0
  refine wpAny_Call_Name_kw (thn ((pe_var (pos := p) hN hv hdb hcd).run pins s σ H (fun v H1 => v = .ref C ∧ H1 = H) I ⟨.ref C, hv0, rfl, rfl⟩) fun u s1 ⟨v, H1, I1, r1, q1⟩ => ?_)
  obtain ⟨rfl, rfl⟩ := q1
  cases r1
  refine PySem.W.callWith_K (h₀ := X.base) I.ok.mod.kin Mm.kp (wpAny_mono (PA.run ha pos pins s1 σ _ (fun vs H1 => ∀ x dx, H1 x = none → H1 dx = none → dx ≠ x → spOf X.K n sd (.ref x :: vs) (upd (upd H1 dx (.own x)) x (.ins C dx [])) (fun v H2 => v = .non ∧ Q (.ref x) H2) (WE W σ)) I1
    (goA so S h kx fun vs ds H1 H' M1 e1 so1 S1 rs ⟨hl, w⟩ kx1 x dx hx hd ne => ?_)) (fun us s1 ⟨vs, H1, I1, r, q1⟩ => ⟨I1.kIn, run_makeD Mm F hr hb tk I1 r q1⟩) fun _ _ z => z) he hpl
  refine ⟨.cel x :: ds, _, _, E, H1, hl, .cons (.cel x) rs, made_D S1 hx hd ne, w x (S1.fresh hx).2, fun v d H2 H2' M2 e2 S2 rv ⟨ev, fs, em, z⟩ => ?_, kx1⟩
  subst ev
  refine ⟨rv.inv_non, ?_⟩
  obtain ⟨o, n0, S3, r3⟩ := S2.freezeO em
  exact kq _ _ _ H2' _ ((e1.trans e2).trans (Ext.add n0)) S3 r3 z
def Cok (P : Program) (w : World) (K : PySem.W.Frag) (mg : Str → Option Value) (base : Heap) (x : Str) (C : Addr) (m : Str) (k n : Nat) (sd : SpD) : Prop :=
  mg x = some (.ref C) ∧ ∃ (mc : Value) (p g : Addr) (fd : FuncData) (ps : List Str), ClX.CRead K C mc ∧ ClX.CMet K C mc m p g ∧ Binds K fd ps [] ∧ FnOk P w K mg base (L2.CX P w) k g fd ps (spOf K n sd)
@[reducible] def dCMeth (C : Addr) (n : Nat) (sd : SpD) (da : DA) : DE := fun env M q E => da env M (fun ds M1 => ds.length + 1 = n ∧ sd (.cel C :: ds) M1 q E) E
open ClX in
theorem pd_cmeth {k n : Nat} {C : Addr} {x m : Str} {sd : SpD} {e : Expr} {es : List Expr} {da : DA} {p apos pos : Pos} {pl : Sem Bool} (F : Cok X.prog X.w X.K X.mg X.base x C m k n sd) (hr : Room k X.A) (tk : Takes X W) (ha : AD X W (e :: es) da) (hg : Gl X x := by rfl) (hdb : (x == ("__debug__" : Str)) = false := by decide)
    (hst : starEach (e :: es) X.env = (false, eval e X.env) :: starEach es X.env := by rfl) (hpl : (backTo pos (starEach es X.env)).any (·.1) = false := by rfl)
    (ht : eval (.Call (.Attribute (.Name x p) m apos) (e :: es) [] pos) X.env = (do
      let ov ← eval (.Name x p) X.env
      standAt apos.atName
      let (f, first) ← holding [ov] (getMethod ov m pl)
      callWith pos f first (backTo pos (starEach (e :: es) X.env)) (backToKw pos (keywordEach [] X.env))) := by rfl) : PD X W (.Call (.Attribute (.Name x p) m apos) (e :: es) [] pos) (dCMeth C n sd da) := by
  obtain ⟨hm, mc, rp, g, fd, ps, r, c, hb, F⟩ := F
  constructor
  intro pins s σ H Q I ⟨env, M, q, E, H0, so, S, h, kq, kx⟩
  refine PySem.W.methodCall_KW (pl := pl) (wpAny_mono (PE.run (pe_glob (pos := p) (v := .ref C) hg hm rfl hdb) pins s σ H (fun x H1 => x = .ref C ∧ H1 = H) I ⟨rfl, rfl⟩) (fun u s1 ⟨x, H1, I1, rx, ex, eh⟩ => ?_) fun _ _ z => z) ht
  subst ex eh
  obtain rfl : u = Value.ref C := rx
  refine getmethcm_ok I1 r c fun s2 I2 => ?_
  refine callwith_cm I2 (base_none I1 (Nat.le_refl _)) c.fi (thn (PA.run ha pos _ s2 σ H1 (fun vs H2 => spOf X.K n sd (.ref C :: vs) H2 Q (WE W σ)) I2
    (goA so S h kx fun vs ds H2 H'' M2 e2 so2 S2 rs ⟨hl, w2⟩ kx2 => ⟨.cel C :: ds, M2, q, E, H2, hl, .cons (.cel C) rs, S2, w2, kq.mono e2, kx2⟩)) fun us s3 ⟨vs, H2, I3, rv, q2⟩ => ⟨⟨pin_at I3, I3.kIn⟩, ?_⟩) hst hpl
  have hl : (Value.ref C :: us).length = ps.length := by
    have e := (show Vals (V.ref C :: vs) (Value.ref C :: us) from .cons rfl rv).length
    rw [F.len _ _ _ _ q2] at e
    exact e.symm
  have hbb := hb s3 (Value.ref C :: us) I3.kIn (by rw [List.append_nil]; exact hl)
  rw [List.append_nil] at hbb
  have z : wpAny (model X.prog X.w) X.A (call (.ref s1.heap.objs.size) us) (EP X ((s1.heap.objs.size, PySem.W.methodObj (.ref g) (.ref C)) :: pins) σ Q) X.xe s3 :=
    wpAny_call (PySem.W.method_call (pin_at I3) (codeAny_mono (F.run X.A X.stack s3 H2 ⟨Value.ref C :: us, []⟩ (Value.ref C :: us) (V.ref C :: vs) Q (WE W σ) hr I3.env0 hbb (.cons rfl rv) q2) fun r s' hq' => by
      cases r with
      | error e => exact passAt tk σ _ H2 s3 e s' I3 hq'
      | ok fl =>
        cases fl with
        | ret u => exact I3.after hq'
        | next => exact False.elim hq'
        | brk => exact False.elim hq'
        | cont => exact False.elim hq'))
  exact thn z fun _ _ y => unpinE y
@[reducible] def dTryN (db : DS) : DS := fun d env M => db { d with ex := fun _ => noX } env M
theorem sd_tryN {x : Str} {c : Value} {body suite : List Stmt} {b₀ : Stmt} {np pos pos' : Pos} {db : DS} (hc : Names X x c) (tk : Takes X W)
    (hb : ∀ (W' : WX) (pn : List (Addr × Obj)) (xe : Value → Shared → Prop), Takes (X.tr pn xe) W' → PassesOwn (model X.prog X.w) X.A X.env xe → BD (X.tr pn xe) W' body db) (hs : X.stack = X.env :: X.outer := by rfl) (hf : X.env.frame = some X.env.locals := by rfl) :
    SDt X W (.Try body [.ExceptHandler (some (.Name x np)) none (b₀ :: suite) pos'] [] [] pos) (dTryN db) :=
  psImp (ps_try_only (ts := fun _ _ _ _ _ _ => False) (tb := fun W' => liftS X.K W' db) hs hf hc tk hb (fun a oe cls d pn _ _ => ⟨fun pins s σ H D I h => h.elim⟩)) fun D σ H ⟨env, M, d, H0, so, S, h, k⟩ => ⟨env, M, _, H0, so, S, h, ⟨k.nx, k.rt, k.bk, k.ct, kxe0⟩⟩
def dcW (ok : Mem → Prop) (g : GD) (t : DT) (dk dv : DE) (env : EnvD) (q : QD) (c : Addr) : List D → Mem → Prop
  | [], M => ok M ∧ q (.cel c) M
  | x :: r, M => ok M ∧ g x env M (fun env' M' => t env' M' (fun b M2 => if b = true then dk env' M2 (fun y M3 => dv env' M3 (fun z M4 => ∃ s k, keyD y = some k ∧ M4 c = some (.dc s) ∧ s.length < sizeLine ∧ dcW ok g t dk dv env q c r (mset M4 c (.dc (setK s k z)))) noX) noX else dcW ok g t dk dv env q c r M2) noX) (fun _ => noX)
@[reducible] def dDc (di : DI) (g : GD) (t : DT) (dk dv : DE) (vs : List Nat) : DE := fun env M q E => di env M (fun items ok M1 => ∀ c, M1 c = none → dcW ok g t dk dv (wipeD env vs) q c items (mset M1 c (.dc []))) E
theorem SD.dput {K : PySem.W.Frag} {H0 H : Hp} {M : Mem} (S : SD K H0 H M) {c : Addr} {s : List (Key × D)} {r : List (Key × V)} (n0 : H0 c = none) (h : KvL K H0 r s) : SD K H0 (upd H c (.dK r)) (mset M c (.dc s)) := S.put (x := .dc s) n0 fun _ e => ⟨_, e, h⟩
theorem lift_dc {K : PySem.W.Frag} {di : DI} {g : GD} {t : DT} {dk dv : DE} {vs : List Nat} : ∀ σ H Q, liftE K W (dDc di g t dk dv vs) σ H Q → tDc (liftI K W di) (liftGw K g vs) (liftT K WF t) (liftE K WF dk) (liftE K WF dv) vs σ H Q := fun σ H Q ⟨env, M, q, E, H0, so, S, h, k, kx⟩ =>
  goI so S h kx fun J items ok H1 H' M1 e1 so1 S1 io w kx1 => by
    intro Dl hD
    have S1' := S1.dput (s := []) (r := []) (S1.fresh hD).1 .nil
    have sw := slot_wipe so1 vs
    refine ⟨fun i m H2 => m = items.length - i ∧ i ≤ items.length ∧ ∃ M2 H3, Ext H1 H3 ∧ SD K H3 H2 M2 ∧ dcW ok g t dk dv (wipeD env vs) q Dl (items.drop i) M2,
      ⟨_, rfl, Nat.zero_le _, _, H1, Ext.refl _, S1', w Dl (S1.fresh hD).2⟩, ?_⟩
    rintro i m H2 ⟨rfl, hi2, M2, H3, e3, S3, w3⟩
    by_cases hlt : i < items.length
    · have hx : items[i]? = some items[i] := List.getElem?_eq_getElem hlt
      rw [List.drop_eq_getElem_cons hlt] at w3
      obtain ⟨o3, w3⟩ := w3
      obtain ⟨g1, g2⟩ := io.go H3 H2 M2 i _ e3 S3 o3 hx
      refine .inr ⟨g1, fun H4 => ∃ M4 H5, Ext H1 H5 ∧ SD K H5 H4 M4 ∧ dcW ok g t dk dv (wipeD env vs) q Dl (items.drop (i + 1)) M4, fun H4 z => ⟨items.length - (i + 1), by omega, rfl, hlt, z⟩, fun x H4 y => ?_⟩
      obtain ⟨H5, e5, S5, r5⟩ := g2 x H4 y
      refine ⟨_, _, M2, _, H5, r5, sw.mono (e3.trans e5), S5, w3, fun σ6 env6 H6 H6' M6 e6 so6 S6 w6 wz => ⟨?_, goT so6 S6 w6 kx0 fun b H7 H7' M7 e7 so7 S7 w7 _ => ?_⟩⟩
      · have z : ∀ (ws : List Nat), (∀ v ∈ ws, v ∈ vs) → wipe (wipe σ vs) ws = wipe σ vs := fun ws => by
          induction ws with
          | nil => intro _; rfl
          | cons v ws ih =>
            intro hv
            show (wipe (wipe σ vs) ws).set v none = wipe σ vs
            rw [ih fun u hu => hv u (List.mem_cons_of_mem _ hu)]
            exact wipe_idem (hv v List.mem_cons_self)
        rw [wz]
        exact z vs fun _ h => h
      · have e17 : Ext H1 H7 := ((e3.trans e5).trans e6).trans e7
        cases b with
        | true =>
          refine iteT ?_
          refine goE so7 S7 (show dk env6 M7 _ noX from w7) kx0 fun v d H8 H8' M8 e8 so8 S8 r8 w8 _ => ?_
          refine goE so8 S8 w8 kx0 fun v' d' H9 H9' M9 e9 so9 S9 r9 ⟨s, kk, ek, ex, hl, w9⟩ _ => ?_
          obtain ⟨n0, us, e10, r10⟩ := S9.dict ex
          exact ⟨us, kk, keyD_dn r8 ek, e10, by rw [r10.length]; exact hl, _, H9, (e17.trans e8).trans e9, S9.dput n0 (r10.put r9), w9⟩
        | false => exact iteF ⟨M7, H7, e17, S7, w7⟩
    · have hge : items.length ≤ i := Nat.le_of_not_lt hlt
      rw [List.drop_eq_nil_of_le hge] at w3
      obtain ⟨o3, w3⟩ := w3
      exact .inl ⟨io.stop H3 H2 M2 i e3 S3 o3 hge, k _ _ H3 H2 _ (e1.trans e3) S3 (.cel Dl) w3⟩
theorem ps_setDc {i : Nat} {y : Str} {py : Pos} {kx vx tg iter : Expr} {ifs : List Expr} {scope : Scope} {own : List (Str × Nat)} {pos spos : Pos} {wi : TI} {g : TG} {tt : TT} {tk tv : TE} (hc : X.calm = true) (hN : X.N.Nodup) (hy : X.N[i]? = some y) (hyl : X.env.scope.names.lookup y = some .local)
    (hsw : swapsWith (.DictComp kx vx [⟨tg, iter, ifs, 0⟩] scope pos) (some (.Name y py)) spos.line X.env = pure true) (hi : PI X tg iter wi) (ok : BlkOk X.N X.env.scope scope own)
    (hg : ∀ (s : Shared) (H : Hp) (C : Addr) (cl : List (Str × Addr)) (fp : List Addr), PG (X.blk s H scope (compEnvC scope cl C X.env) fp) tg g) (ht : ∀ (s : Shared) (H : Hp) (C : Addr) (cl : List (Str × Addr)) (fp : List Addr), PTs (X.blk s H scope (compEnvC scope cl C X.env) fp) ifs tt)
    (hk : ∀ (s : Shared) (H : Hp) (C : Addr) (cl : List (Str × Addr)) (fp : List Addr), PE (X.blk s H scope (compEnvC scope cl C X.env) fp) kx tk)
    (he : ∀ (s : Shared) (H : Hp) (C : Addr) (cl : List (Str × Addr)) (fp : List Addr), PE (X.blk s H scope (compEnvC scope cl C X.env) fp) vx tv) (hs : ∀ x, foldedSetIterable iter X.env x = pure x := by intro _; rfl) :
    PS X (.Assign [.Name y py] (.DictComp kx vx [⟨tg, iter, ifs, 0⟩] scope pos) spos) (tAsg (tDc wi g tt tk tv (own.map (·.2))) (gName i)) := by
  refine ⟨fun pins s σ H D I h => ?_⟩
  rw [exec_Assign_Name_used _ _ _ _ hsw]
  refine wpAny_bind (wpAny_standAt (wpAny_bind ?_))
  show wpAny _ X.A (do let _ ← comprehension (.DictComp kx vx [⟨tg, iter, ifs, 0⟩] scope pos) scope X.env (firstIterPos [⟨tg, iter, ifs, 0⟩] pos) newDict false (eval iter X.env) (some (assign (.Name y py) X.env))) _ _ s
  have h : tDc wi g tt tk tv (own.map (·.2)) σ H (fun x H1 => gName i x σ H1 D.nx) := h
  refine wpAny_bind (thn (dc_core (Qf := fun _ s' => SP X pins D .next s') hc hN I hi ok hg ht hk he hs h fun L C s' m H' I' q hn f => ?_) fun _ s' hq => wpAny_pure (wpAny_pure hq))
  show wpAny _ _ (assign (.Name y py) X.env (.ref L)) _ _ _
  refine wpAny_assign_Name (store_ok2 (v := V.ref L) I' hN hy (.inl hyl) rfl (fun s2 I2 ⟨a, sb, ha⟩ => ?_) (.inr hyl))
  obtain ⟨f0, f1, f2, f3, f4, f5⟩ := f
  have haC : C ≠ a := by
    rcases ha with z | z
    · rw [z]; exact f1
    · exact fun e => f4 y a z e.symm
  refine ⟨m, hn.sameBut sb haC, fun h3 sb3 => ?_⟩
  exact ⟨_, H', I2.turned (t' := s2.toks) (fun b o hb e => (sb3.2 b hb).trans e) f0 f1 f3 f4 f5, q⟩
theorem sw_trueD {kx vx : Expr} {gs : List Comprehension} {scope : Scope} {pos py : Pos} {y : Str} {l : Nat} {env : Env} (hk : env.scope.kind = .function) (hy : env.scope.names.lookup y = some .local) (hl : (py.line == pos.line) = true)
    (ha : (scope.names.any fun (n, k) => n == y && (k == .local || k == .cell)) = false) : swapsWith (.DictComp kx vx gs scope pos) (some (.Name y py)) l env = pure true := by
  have ky : env.kindOf y = some .local := hy
  have hb : env.blockKind = .function := by unfold Env.blockKind; rw [hk]; rfl
  unfold swapsWith
  simp only [hb, ky, ha, Expr.pos, hl]
  rfl
theorem sd_setDc (i : Nat) {y : Str} {py : Pos} {kx vx tg iter : Expr} {ifs : List Expr} {scope : Scope} {own : List (Str × Nat)} {pos spos : Pos} {di : DI} {g : GD} {t : DT} {dk dv : DE} (hc : X.calm = true) (hN : X.N.Nodup)
    (hsw : swapsWith (.DictComp kx vx [⟨tg, iter, ifs, 0⟩] scope pos) (some (.Name y py)) spos.line X.env = pure true) (hi : ID X W tg iter di) (ok : BlkOk X.N X.env.scope scope own)
    (hg : ∀ (s : Shared) (H : Hp) (C : Addr) (cl : List (Str × Addr)) (fp : List Addr), TgW (X.blk s H scope (compEnvC scope cl C X.env) fp) tg g (own.map (·.2))) (ht : ∀ (s : Shared) (H : Hp) (C : Addr) (cl : List (Str × Addr)) (fp : List Addr), TsD (X.blk s H scope (compEnvC scope cl C X.env) fp) ifs t)
    (hk : ∀ (s : Shared) (H : Hp) (C : Addr) (cl : List (Str × Addr)) (fp : List Addr), PD (X.blk s H scope (compEnvC scope cl C X.env) fp) WF kx dk)
    (he : ∀ (s : Shared) (H : Hp) (C : Addr) (cl : List (Str × Addr)) (fp : List Addr), PD (X.blk s H scope (compEnvC scope cl C X.env) fp) WF vx dv) (hy : X.N[i]? = some y := by rfl) (hyl : X.env.scope.names.lookup y = some .local := by rfl)
    (hs : ∀ x, foldedSetIterable iter X.env x = pure x := by intro _; rfl) : SDt X W (.Assign [.Name y py] (.DictComp kx vx [⟨tg, iter, ifs, 0⟩] scope pos) spos) (dSet i (dDc di g t dk dv (own.map (·.2)))) :=
  psImp (ps_setDc (g := liftGw X.K g (own.map Prod.snd)) (tt := liftT X.K WF t) (tk := liftE X.K WF dk) (tv := liftE X.K WF dv) hc hN hy hyl hsw hi ok hg ht hk he hs) fun D σ H ⟨env, M, d, H0, so, S, h, k⟩ =>
    lift_dc σ H _ (goE so S h (k.ex.at so) fun x dx H1 H' M1 e1 so1 S1 rx w kx1 => k.nx _ _ H1 H' M1 e1 (so1.set i rx) S1 w)
def rdIntS : RDL := fun ds M q => ∃ (a : Str) (n : Int), ds = [.str a] ∧ PySem.intText? a = some n ∧ a.length ≤ 640 ∧ q (.int n) M
theorem cd_intS : CallD X (.type "int") rdIntS := ⟨_, call_int_str, fun H0 H M xs ds q Q S r w k => by
  obtain ⟨a, n, rfl, e, hl, w⟩ := w
  obtain ⟨v, rfl, rv⟩ := dnl1 r
  cases rv
  exact ⟨a, n, rfl, e, hl, k.here S (.int _) w⟩⟩
end
section
variable {ok : Mem → Prop} {g : GD} {t : DT} {dk dv : DE} {env : EnvD} {q : QD} {c : Addr} {xs : List D}
theorem dc_lst (I : Nat → Mem → Prop) (h0 : ∀ M, I xs.length M → ok M ∧ q (.cel c) M)
    (hs : ∀ i x M, xs[i]? = some x → I i M → ∀ nx : Mem → Prop, (∀ M', I (i + 1) M' → nx M') →
      ok M ∧ g x env M (fun env' M' => t env' M' (fun b M2 => if b = true then dk env' M2 (fun y M3 => dv env' M3 (fun z M4 => ∃ s k, keyD y = some k ∧ M4 c = some (.dc s) ∧ s.length < sizeLine ∧ nx (mset M4 c (.dc (setK s k z)))) noX) noX else nx M2) noX) (fun _ => noX)) (M : Mem) (h : I 0 M) : dcW ok g t dk dv env q c xs M := by
  have : ∀ (r : List D) (i : Nat) M, r = xs.drop i → i ≤ xs.length → I i M → dcW ok g t dk dv env q c r M := by
    intro r
    induction r with
    | nil =>
      intro i M e hi hI
      have : i = xs.length := by
        have := congrArg List.length e
        rw [List.length_nil, List.length_drop] at this
        omega
      subst this
      exact h0 M hI
    | cons x r ih =>
      intro i M e hi hI
      have hlt : i < xs.length := by
        have := congrArg List.length e
        rw [List.length_cons, List.length_drop] at this
        omega
      rw [List.drop_eq_getElem_cons hlt] at e
      injection e with e1 e2
      exact hs i x M (by rw [e1]; exact List.getElem?_eq_getElem hlt) hI _ fun M' h' => ih (i + 1) M' e2 hlt h'
  exact this xs 0 M rfl (Nat.zero_le _) h
end
section
variable {M : Mem} {q : QD}
theorem slf_lst {xs : List D} {n : Nat} (w : q (.lst (xs.drop n)) M) : rdSl (.lst xs) (some (n : Int)) none M q := ⟨xs, rfl, by rw [cut_from]; exact w⟩
theorem eq_strA {i j : Str} (w : q (.bl (decide (i = j))) M) : rdEq (.str i) (.str j) M q := .inr ⟨i, j, rfl, rfl, w⟩
end
end DL
set_option maxRecDepth 100000
set_option maxHeartbeats 4000000
namespace DL
open PySem PySem.Spec PyProof.Rows L2
def rSortedSQ (K : PySem.W.Frag) : List V → Hp → VK → Prop := fun vs H Q => ∃ (a : Addr) (xs : List Str), vs = [V.ref a] ∧ (SqL K H a (xs.map V.str) ∨ SqT K H a (xs.map V.str)) ∧ xs.length < 64 ∧
  ∀ (ys : List Str) (p : Addr), ys.Perm xs → sortedS ys = true → H p = none → Q (.ref p) (upd H p (.lst (ys.map V.str)))
theorem sorted_strsQ {prog : Program} {w : World} {A : Around} {E : Value → Shared → Prop} {s : Shared} {l : Addr} {T : String} {o : Obj} {vs : List Value} {n : Nat} {ss : List Str} {Q : Value → Shared → Prop}
    (hT : T = "list" ∨ T = "tuple") (ho : s.heap.get? l = some o) (hc : o.cls = .type T) (hd : o.data = .seq vs.toArray n) (hS : StrsAre vs ss) (h64 : vs.length < 64)
    (h : ∀ (h1 : Heap), (∀ b o, s.heap.get? b = some o → h1.get? b = some o) → ∀ (h' : Heap) (d : Addr) (out : List Value) (ss' : List Str), StrsAre out ss' → ss'.Perm ss → sortedS ss' = true → (∀ b o, h1.get? b = some o → h'.get? b = some o) → h1.objs.size ≤ d → (∃ e, h'.get? d = some (seqObj "list" out.toArray e)) → Q (.ref d) { s with heap := h' }) :
    wpAny (model prog w) A (call (.builtin "sorted") [.ref l]) Q E s := by
  have hz : vs.length ≤ sizeLine := by rw [sizeLine_eq]; omega
  refine Calls.call_function_entry kind_sorted plain_sorted entry_sorted (args_sorted1 _) ?_
  unfold Builtin.«sorted»
  refine wpAny_bind (m := checkCount "sorted" 1 1 _) (wpAny_pure ?_)
  refine wpAny_bind (wpAny_collect_seq l hT ho hc hd (fun h1 keep => ?_) (by simpa using hz))
  refine wpAny_bind (wpAny_newList ?_ (by simpa using hz))
  have hoL : (h1.push (seqObj "list" vs.toArray 0)).get? h1.objs.size = some (seqObj "list" vs.toArray 0) := Heap.get?_push_size _ rfl
  show wpAny _ _ _ _ _ { s with heap := h1.push (seqObj "list" vs.toArray 0) }
  refine wpAny_bind (wpAny_holding (wpAny_call_entry slot_list_sort ⟨_, hoL, rfl⟩ entry_list_sort
    (list_sort_treeK strKind_oneLt hoL hS.keysOf (fun v₁ v₂ rest e => keyKind_strs (by rw [← e]; exact hS)) h64 fun st' hp hs => ?_) (args_list_sort _)))
  obtain ⟨ys, g1, g2, g3⟩ := sorted_out_str hS hp hs
  obtain ⟨ep, he'⟩ := PyProof.Rows.sortedHeap_at (vs := vs) (out := (arrOf st').map (·.2)) hoL
  refine ⟨.none, rfl, ?_⟩
  refine wpAny_pure ⟨_, rfl, h h1 keep _ _ ((arrOf st').map (·.2)).toList ys g1 g2 g3 (fun b u hu => ?_) (Nat.le_refl _) ⟨ep, by rw [Array.toArray_toList]; exact he'⟩⟩
  have hb := Heap.lt_size hu
  have hb2 : b < (h1.push (seqObj "list" vs.toArray 0)).objs.size := by
    have e : (h1.push (seqObj "list" vs.toArray 0)).objs.size = h1.objs.size + 1 := Heap.size_push ..
    exact Nat.lt_of_lt_of_le hb (by rw [e]; exact Nat.le_succ _)
  rw [PyProof.Rows.sortedHeap_old (Nat.ne_of_lt hb) hb2]
  exact Heap.get?_push_of_some _ hu
section
variable {X : Cx} {W : WX}
theorem cr_sortedSQ : CallR X (.builtin "sorted") (rSortedSQ X.K) := by
  intro pins s σ H vs us Q I r h
  obtain ⟨a, xs, rfl, hs, h64, q⟩ := h
  rw [Vals.ref1 r]
  have fin : ∀ (its : List Value) (T : String) (o : Obj) (n : Nat), Vals (xs.map V.str) its → T = "list" ∨ T = "tuple" → s.heap.get? a = some o → o.cls = .type T → o.data = .seq its.toArray n → wpAny (model X.prog X.w) X.A (call (.builtin "sorted") [.ref a]) (EP X pins σ Q) X.xe s := by
    intro its T o n rv hT ho hc hd
    have hlen0 := rv.length
    rw [List.length_map] at hlen0
    refine sorted_strsQ hT ho hc hd rv.strs (by rw [← hlen0]; exact h64) fun hh1 keep h' d out ys h1 h2 h3 kp hd2 ⟨ep, he'⟩ => ?_
    have I1 : Inv X pins σ H { s with heap := hh1 } := I.kept (t' := s.toks) keep
    have hlen : (ys.map V.str).length ≤ sizeLine := by rw [List.length_map, h2.length_eq, sizeLine_eq]; omega
    exact ⟨.ref d, upd H d (.lst (ys.map V.str)), I1.laid (t' := s.toks) kp hd2 ⟨hlen, out, ep, vals_of_strs h1, he'⟩, rfl, q ys _ h2 h3 (I1.hok.fresh hd2)⟩
  rcases hs with hs | hs
  · obtain ⟨its, rv, pl, _⟩ := I.list hs
    obtain ⟨o, ho, hc, n, hd⟩ := pl.isList
    exact fin its "list" o n rv (.inl rfl) ho hc hd
  · obtain ⟨its, rv, ⟨o, ho, hc, n, hd⟩, _⟩ := I.tuple hs
    exact fin its "tuple" o n rv (.inr rfl) ho hc hd
def rdSortS : RDL := fun ds M q => ∃ (d : D) (xs : List D) (ss : List Str), ds = [d] ∧ seqOf M d = some xs ∧ strsD xs = some ss ∧ ss.length < 64 ∧ ∀ ys : List Str, ys.Perm ss → sortedS ys = true → q (.lst (ys.map D.str)) M
theorem cd_sortS : CallD X (.builtin "sorted") rdSortS := ⟨_, cr_sortedSQ, fun H0 H M xs ds q Q S r w k => by
  obtain ⟨d, ys, ss, rfl, e, es, h64, w⟩ := w
  obtain ⟨v, rfl, rv⟩ := dnl1 r
  obtain ⟨a, vs, rfl, hs, rs⟩ := S.seq rv e
  have := strs_dn rs es
  subst this
  exact ⟨a, ss, rfl, hs, h64, fun ys p h1 h2 hp => k.newL S (dn_strs ys) (w ys h1 h2) p hp⟩⟩
end
end DL
set_option maxRecDepth 100000
set_option maxHeartbeats 4000000
namespace DL
open PySem PySem.Spec PyProof.Rows L2
theorem e0_of {K : PySem.W.Frag} {P : Program} {w : World} {H : Hp} {outer : List Env} {s : Shared} {u : Value} {s' : Shared} (h : L2.CX P w outer H s E0 u s') : False := by
  obtain ⟨_, _, _, _, _, _, _, _, _, _, _, _, z⟩ := h
  exact z
section
variable {X : Cx} {W : WX}
/-- the call of a special method, around A with the same frames -/
theorem run_own {k n : Nat} {f : Addr} {fd : FuncData} {ps : List Str} {sd : SpD} {pins : List (Addr × Obj)} {σ : L2.St} {H : Hp} {s : Shared} {us : List Value} {vs : List V} {A : Around} {E : Value → Shared → Prop} {Q : VK} (F : FnOk X.prog X.w X.K X.mg X.base (L2.CX X.prog X.w) k f fd ps (spOf X.K n sd)) (hr : Room k A) (hb : Binds X.K fd ps [])
    (hfr : A.frames = X.A.frames) (I : Inv X pins σ H s) (r : Vals vs us) (h : spOf X.K n sd vs H Q E0) : wpAny (model X.prog X.w) A (call (.ref f) us) (EP X pins σ Q) E s := by
  have e0 : Env0 X.prog X.w X.K X.mg X.base A X.stack s H := by
    have e := I.env0
    exact ⟨by rw [hfr]; exact e.frames, e.mod, e.bs, e.bsz, e.funs, e.frf, e.hok, e.bare⟩
  have hl : (us ++ []).length = ps.length := by
    rw [List.append_nil, ← r.length]; exact F.len _ _ _ _ h
  have hbb := hb s us I.kIn hl
  rw [List.append_nil] at hbb
  refine wpAny_call (codeAny_mono (F.run A X.stack s H ⟨us, []⟩ us vs Q E0 hr e0 hbb r h) fun res s' out => ?_)
  cases res with
  | error e => exact (e0_of (K := X.K) out).elim
  | ok fl =>
    cases fl with
    | ret u => exact I.after out
    | next => exact out.elim
    | brk => exact out.elim
    | cont => exact out.elim
/-- x in o, x not in o: own __contains__, True or False -/
def rdInO (neg : Bool) (C : Addr) (sd : SpD) : RD2 := fun x o M q => ∃ fs, fsOf M C o = some fs ∧ sd [o, x] M (fun v M1 => ∃ b, v = .bl b ∧ q (.bl (if neg then !b else b)) M1) noX
theorem opd_niO {k : Nat} {C : Addr} {sd : SpD} (F : Mok X.prog X.w X.K X.mg X.base C "__contains__" k 2 sd) (hr : Room k X.A) : OpD X (compareOp .NotIn) (rdInO true C sd) := by
  obtain ⟨c, f, fd, ps, hm, hfn, hb, F⟩ := F
  refine ⟨fun x y H Q => ∃ a dx fs, y = .ref a ∧ H a = some (.ins C dx fs) ∧ spOf X.K 2 sd [y, x] H (fun v H' => ∃ b, v = .bl b ∧ Q (.bl (!b)) H') E0, fun pins s σ H x y v u Q I rx ry h => ?_, fun H0 H M x y dx dy q Q S hx hy w k => ?_⟩
  · obtain ⟨a, dx, fs, rfl, ea, h⟩ := h
    obtain rfl : u = Value.ref a := ry
    obtain ⟨mA, J, _⟩ := ins_get I.hok ea
    obtain ⟨od, J, _⟩ := J.look
    obtain ⟨m, hF⟩ := I.fr
    refine PySem.W.notIn_K hF I.ok.mod.kin J hm.at_ hm.fn (wpAny_mono (run_own F hr hb rfl I (.cons (show RelV (.ref a) (.ref a) from rfl) (.cons rx .nil)) h) (fun r s' ⟨v', H', I', rv, b, ev, q⟩ => ?_) fun _ _ z => z)
    subst ev
    cases rv
    exact wpAny_truthy_bool ⟨.bl (!b), H', I', rfl, q⟩
  · obtain ⟨fs, ef, w⟩ := w
    obtain ⟨a, dd, fvs, rfl, q1, r⟩ := S.obj hy ef
    exact ⟨a, dd, fvs, rfl, q1, [dy, dx], M, _, noX, H0, rfl, .cons hy (.cons hx .nil), S, w, fun v d H0' H' M' e S' rv ⟨b, ed, z⟩ => by subst ed; exact ⟨b, rv.inv_bl, k _ _ H0' H' M' e S' (.bl (!b)) z⟩, kx0⟩
structure OwnI (K : PySem.W.Frag) (C : Addr) : Prop where
  cl : Cls K C
  ha : PySem.W.findIn K (.ref C) "__class__" = some (some (.builtin "object.__class__"))
  hn : PySem.W.specialIn K (.builtin "object.__class__") "__get__" = some (some (.builtin "getset_descriptor.__get__"))
  htk : PySem.W.takesIn K (.builtin "object.__class__") = some true
  hm : PySem.W.mroIn K C (.type "object") = some true
  no : ∀ t : String, t ∈ ["NoneType", "bool", "int", "str", "list", "tuple", "dict"] → PySem.W.kitOne K (.type t) (.ref C) = some false
theorem tyD_in {M : Mem} {d : D} {t : String} (h : tyD M d = some t) : t ∈ ["NoneType", "bool", "int", "str", "list", "tuple", "dict"] := by
  cases d with
  | cel c =>
    have e' : (match M c with | some (.ls _) => some "list" | some (.dc _) => some "dict" | _ => none) = some t := h
    split at e'
    · cases e'; decide
    · cases e'; decide
    · cases e'
  | ty n => cases h
  | ins C f v => cases h
  | _ => cases h; decide
@[reducible] def rdIsiC (C : Addr) : RD1 := fun d M q => ((∃ fs, fsOf M C d = some fs) ∧ q (.bl true) M) ∨ ((∃ t, tyD M d = some t) ∧ q (.bl false) M)
@[reducible] def dIsiC (C : Addr) (de : DE) : DE := fun env M q E => de env M (fun d M1 => rdIsiC C d M1 q) E
theorem pd_isiC {e : Expr} {y : Str} {C : Addr} {p p' pos : Pos} {de : DE} (he : PD X W e de) (o : OwnI X.K C) (hm : X.mg "isinstance" = none) (hmy : X.mg y = some (.ref C)) (hg : Gl X "isinstance" := by rfl) (hgy : Gl X y := by rfl) (hdy : (y == ("__debug__" : Str)) = false := by decide)
    (hs : starEach [e, .Name y p'] X.env = (false, eval e X.env) :: starEach [.Name y p'] X.env := by rfl) (hpl : (backTo pos (starEach [.Name y p'] X.env)).any (·.1) = false := by rfl) (hv2 : bootBuiltins "isinstance" = some (.builtin "isinstance") := by decide +kernel) : PD X W (.Call (.Name "isinstance" p) [e, .Name y p'] [] pos) (dIsiC C de) := by
  have h2 : AD X W [e, .Name y p'] (dCons de (dCons (dC (.cel C)) dNil)) := ad_cons he (ad_cons (pd_of_tC (pe_glob hgy hmy (show RelV (.ref C) (.ref C) from rfl) hdy) fun _ => .cel C) ad_nil (by rfl)) hs
  refine peImp (pe_callB (x := "isinstance") call_isi hg hm hv2 h2 (by decide) (by decide) hs hpl) fun σ H Q ⟨env, M, q, E, H0, so, S, h, k, kx⟩ => ?_
  refine ⟨env, M, fun ds M1 => (match ds with | [d, .cel m] => m = C ∧ rdIsiC C d M1 q | _ => False), E, H0, so, S, ?_, ?_, kx⟩
  · show de env M (fun d M1 => C = C ∧ rdIsiC C d M1 q) E
    rw [show (fun d M1 => C = C ∧ rdIsiC C d M1 q) = (fun d M1 => rdIsiC C d M1 q) from by funext d M1; exact propext ⟨fun h => h.2, fun h => ⟨rfl, h⟩⟩]
    exact h
  · intro vs ds H1 H' M1 e1 S1 rs w
    have w' : ∃ d, ds = [d, .cel C] ∧ rdIsiC C d M1 q := by
      revert w
      split
      · rintro ⟨rfl, w⟩; exact ⟨_, rfl, w⟩
      · exact fun z => z.elim
    clear w
    obtain ⟨d, ed, w⟩ := w'
    subst ed
    obtain ⟨v, u, rfl, rv, ru⟩ := dnl2 rs
    cases ru
    rcases w with ⟨⟨fs, ef⟩, w⟩ | ⟨⟨t, et⟩, w⟩
    · obtain ⟨a, dd, fvs, rfl, q1, r⟩ := S1.obj rv ef
      exact ⟨.ref a, .ref C, .ref C, .ref C, true, rfl, .own C, .base (.ins q1 o.cl o.ha o.hn o.htk o.hm), by unfold PySem.W.kitOne; rw [if_pos (by simp)], k _ _ H1 H' M1 e1 S1 (.bl true) w⟩
    · exact ⟨v, .ref C, .type t, .ref C, false, rfl, .own C, S1.tyX rv et, o.no t (tyD_in et), k _ _ H1 H' M1 e1 S1 (.bl false) w⟩
end
end DL
set_option maxRecDepth 100000
namespace R
open PySem PySem.Spec PyProof.Rows L2 DL
def letB (c : Nat) : Bool := decide (97 ≤ c ∧ c ≤ 122)
def signB (c : Nat) : Bool := decide (97 ≤ c ∧ c ≤ 122 ∨ 48 ≤ c ∧ c ≤ 57)
def nameL : List Nat → Bool
  | [] => false
  | c :: r => letB c && r.all signB && decide (r.length ≤ 7)
/-- a name: one to eight signs, a letter first -/
def nameB (x : Str) : Bool := nameL x.cps.toList
structure Host where
  name : Str
  rack : Str
  marks : List Int
  deriving DecidableEq
abbrev intsT (ms : List Int) : D := .tup (ms.map D.int)
abbrev strsT (xs : List Str) : D := .tup (xs.map D.str)
abbrev strsL (xs : List Str) : D := .lst (xs.map D.str)
abbrev hostD (h : Host) : D := .tup [.str h.name, .str h.rack, intsT h.marks]
abbrev crewD (hs : List Host) : D := .tup (hs.map hostD)
structure MarksOk (size : Int) (ms : List Int) : Prop where
  ne : 1 ≤ ms.length
  few : ms.length ≤ 16
  asc : ms.Pairwise (· < ·)
  inn : ∀ m ∈ ms, 0 ≤ m ∧ m < size
/-- a host that may stand behind the others -/
structure NextOk (size : Int) (hs : List Host) (h : Host) : Prop where
  name : nameB h.name = true
  rack : nameB h.rack = true
  fresh : ∀ o ∈ hs, o.name ≠ h.name
  marks : MarksOk size h.marks
  free : ∀ o ∈ hs, ∀ m ∈ h.marks, m ∉ o.marks
structure CrewOk (size : Int) (hs : List Host) : Prop where
  ne : hs ≠ []
  few : hs.length ≤ 12
  each : ∀ (i : Nat) h, hs[i]? = some h → NextOk size (hs.take i) h
structure Rule where
  wide : Int
  spread : Str
  write : Int
  read : Int
  pend : Str
  deriving DecidableEq
structure RuleOk (r : Rule) : Prop where
  w : 1 ≤ r.wide ∧ r.wide ≤ 5
  s : r.spread = "hosts" ∨ r.spread = "racks"
  p : 1 ≤ r.write ∧ r.write ≤ r.wide
  g : 1 ≤ r.read ∧ r.read ≤ r.wide
  m : r.pend = "plain" ∨ r.pend = "with"
def frameL (size : Int) (r : Rule) (hs : List Host) : List D := [.int size, .int r.wide, .str r.spread, .int r.write, .int r.read, .str r.pend, crewD hs]
def fNames : List Str := ["_points", "_factor", "_spread", "_write", "_read_number", "_pending", "_hosts"]
def fieldsD (size : Int) (r : Rule) (hs : List Host) : List (Str × D) := [("_points", .int size), ("_factor", .int r.wide), ("_spread", .str r.spread), ("_write", .int r.write), ("_read_number", .int r.read), ("_pending", .str r.pend), ("_hosts", crewD hs)]
def ringD (C : Addr) (size : Int) (r : Rule) (hs : List Host) : D := .ins C fNames (frameL size r hs)
/-- the way from a point to the next of these marks -/
def IsWay (size p : Int) (ms : List Int) (m : Int) : Prop := m ∈ ms.map (fun k => (k - p) % size) ∧ ∀ y ∈ ms.map (fun k => (k - p) % size), m ≤ y
/-- the names by their ways -/
def WalkOf (size p : Int) (hs : List Host) (ns : List Str) : Prop := ∃ ws : List (Int × Str), ws.Pairwise (fun a b => a.1 ≤ b.1) ∧ ns = ws.map (·.2) ∧ (ws.map (·.2)).Perm (hs.map (·.name)) ∧ ∀ a ∈ ws, ∃ h ∈ hs, h.name = a.2 ∧ IsWay size p h.marks a.1
def rackOf (hs : List Host) (x : Str) : Str := ((hs.find? fun h => decide (h.name = x)).map (·.rack)).getD x
/-- firsts, others: by racks seen -/
def splitR (hs : List Host) : List Str → List Str → List Str → List Str → List Str × List Str
  | _, fs, os, [] => (fs, os)
  | seen, fs, os, x :: r => if rackOf hs x ∈ seen then splitR hs seen fs (os ++ [x]) r else splitR hs (seen ++ [rackOf hs x]) (fs ++ [x]) os r
def newRacks (hs : List Host) (ns : List Str) : List Str := (splitR hs [] [] [] ns).1 ++ (splitR hs [] [] [] ns).2
def keepersOf (r : Rule) (hs : List Host) (ns : List Str) : List Str := (if r.spread = "racks" then newRacks hs ns else ns).take r.wide.toNat
/-- the generator's state -/
def Kg (M : Mem) (k : Addr) (g : Int) : Prop := ∃ a b c : Int, M k = some (.ls [.int a, .int b, .int c]) ∧ 0 ≤ b ∧ b < 2147483648 ∧ 0 ≤ c ∧ c ≤ g
def sd_is_whole (C : Addr) : SpD := fun ds M q _ => ∃ i : Int, ds = [.int i] ∧ q (.bl true) M
def sd_is_from_to (C : Addr) : SpD := fun ds M q _ => ∃ v lo hi : Int, ds = [.int v, .int lo, .int hi] ∧ q (.bl (decide (lo ≤ v ∧ v ≤ hi))) M
def sd_is_word_of (C : Addr) : SpD := fun ds M q _ => (∃ (x : Str) (ws : List Str), ds = [.str x, strsT ws] ∧ q (.bl (decide (x ∈ ws))) M) ∨ ∃ (d : D) (ws : List Str) (t : String), ds = [d, strsT ws] ∧ tyD M d = some t ∧ t ≠ "str" ∧ q (.bl false) M
def sd_is_name (C : Addr) : SpD := fun ds M q _ => ∃ x : Str, ds = [.str x] ∧ nameB x = true ∧ q (.bl true) M
def sd_is_ascending (C : Addr) : SpD := fun ds M q _ => ∃ ms : List Int, ds = [intsT ms] ∧ ms.length ≤ 16 ∧ ms.Pairwise (· < ·) ∧ q (.bl true) M
def sd_are_free_marks (C : Addr) : SpD := fun ds M q _ => ∃ (ms : List Int) (size : Int) (hs : List Host), ds = [intsT ms, .int size, crewD hs] ∧ MarksOk size ms ∧ hs.length ≤ 12 ∧ (∀ o ∈ hs, ∀ m ∈ ms, m ∉ o.marks) ∧ q (.bl true) M
def sd_is_free_name (C : Addr) : SpD := fun ds M q _ => ∃ (x : Str) (hs : List Host), ds = [.str x, crewD hs] ∧ nameB x = true ∧ hs.length ≤ 12 ∧ (∀ o ∈ hs, nameB o.name = true ∧ o.name ≠ x) ∧ q (.bl true) M
def sd_is_next_host (C : Addr) : SpD := fun ds M q _ => ∃ (h : Host) (size : Int) (hs : List Host), ds = [hostD h, .int size, crewD hs] ∧ NextOk size hs h ∧ hs.length ≤ 12 ∧ (∀ o ∈ hs, nameB o.name = true) ∧ q (.bl true) M
def sd_check_hosts (C : Addr) : SpD := fun ds M q _ => ∃ (size : Int) (hs : List Host), ds = [.int size, crewD hs] ∧ CrewOk size hs ∧ q .non M
def sd_Ring___init__ (C : Addr) : SpD := fun ds M q _ => ∃ (c : Addr) (size : Int) (r : Rule) (hs : List Host), ds = .cel c :: frameL size r hs ∧ M c = some (.ob C []) ∧ 1 ≤ size ∧ size ≤ 1000000000000000000 ∧ RuleOk r ∧ CrewOk size hs ∧ q .non (mset M c (.ob C (fieldsD size r hs)))
def sd_Ring__way (C : Addr) : SpD := fun ds M q _ => ∃ (size : Int) (r : Rule) (hs : List Host) (p : Int) (ms : List Int), ds = [ringD C size r hs, .int p, intsT ms] ∧ 0 < size ∧ 1 ≤ ms.length ∧ ms.length ≤ 16 ∧ ∀ m, IsWay size p ms m → q (.int m) M
def sd_Ring_walk (C : Addr) : SpD := fun ds M q _ => ∃ (size : Int) (r : Rule) (hs : List Host) (p : Int), ds = [ringD C size r hs, .int p] ∧ CrewOk size hs ∧ 0 ≤ p ∧ p < size ∧ ∀ ns, WalkOf size p hs ns → q (strsT ns) M
def sd_new_racks_first (C : Addr) : SpD := fun ds M q _ => ∃ (size : Int) (r : Rule) (hs : List Host) (ns : List Str), ds = [ringD C size r hs, strsT ns] ∧ CrewOk size hs ∧ ns.length ≤ 12 ∧ (∀ x ∈ ns, x ∈ hs.map (·.name)) ∧ ∀ M', Kept M M' → q (strsT (newRacks hs ns)) M'
/-- the drawing -/
def sd_dip (C : Addr) : SpD := fun ds M q _ => ∃ (k : Addr) (n g : Int), ds = [.cel k, .int n] ∧ 0 < n ∧ n < 1073741824 ∧ Kg M k g ∧ g < 1099511627776 ∧ ∀ v M', 0 ≤ v → v < n → KeptB k M M' → Kg M' k (g + 1) → q (.int v) M'
def sd_of (C : Addr) : SpD := fun ds M q _ => ∃ (k : Addr) (d : D) (xs : List D) (g : Int), ds = [.cel k, d] ∧ d ≠ .cel k ∧ seqOf M d = some xs ∧ 0 < xs.length ∧ xs.length < 1000000 ∧ Kg M k g ∧ g < 1099511627776 ∧ ∀ x M', x ∈ xs → KeptB k M M' → Kg M' k (g + 1) → q x M'
def sd_vast (C : Addr) : SpD := fun ds M q _ => ∃ (k : Addr) (n g : Int), ds = [.cel k, .int n] ∧ 0 < n ∧ Kg M k g ∧ g + 4 < 1099511627776 ∧ ∀ v M', 0 ≤ v → v < n → KeptB k M M' → Kg M' k (g + 4) → q (.int v) M'
def sd_title (C : Addr) : SpD := fun ds M q _ => ∃ (k : Addr) (g : Int), ds = [.cel k] ∧ Kg M k g ∧ g + 20 < 1099511627776 ∧ ∀ x M', nameB x = true → KeptB k M M' → Kg M' k (g + 20) → q (.str x) M'
def sd_titles (C : Addr) : SpD := fun ds M q _ => ∃ (k : Addr) (n : Nat) (g : Int), ds = [.cel k, .int n] ∧ n ≤ 12 ∧ Kg M k g ∧ g + 400 < 1099511627776 ∧ ∀ (xs : List Str) M', xs.length = n → xs.Nodup → (∀ x ∈ xs, nameB x = true) → KeptB k M M' → Kg M' k (g + 400) → q (strsL xs) M'
def sd_yards (C : Addr) : SpD := fun ds M q _ => ∃ (k : Addr) (n : Nat) (g : Int), ds = [.cel k, .int n] ∧ n ≤ 12 ∧ Kg M k g ∧ g + 500 < 1099511627776 ∧ ∀ (xs : List Str) M', xs.length = n → (∀ x ∈ xs, nameB x = true) → KeptB k M M' → Kg M' k (g + 500) → q (strsL xs) M'
def sd_free (C : Addr) : SpD := fun ds M q _ => ∃ (size wish : Int) (d : D) (ts : List Int), ds = [.int size, d, .int wish] ∧ seqOf M d = some (ts.map D.int) ∧ (ts.length : Int) < size ∧ ts.length < 100000 ∧ ∀ v, 0 ≤ v → v < size → v ∉ ts → q (.int v) M
def sd_place (C : Addr) : SpD := fun ds M q _ => ∃ (k : Addr) (size g : Int) (d : D) (ts : List Int), ds = [.cel k, .int size, d] ∧ d ≠ .cel k ∧ lsqOf M d = some (ts.map D.int) ∧ ts.length < 100000 ∧ 0 < size ∧ Kg M k g ∧ g + 10 < 1099511627776 ∧ ∀ v M', 0 ≤ v → v < size → KeptB k M M' → Kg M' k (g + 10) → q (.int v) M'
def sd_band (C : Addr) : SpD := fun ds M q _ => ∃ (k : Addr) (size g : Int) (most each : Nat), ds = [.cel k, .int size, .int most, .int each] ∧ 0 < size ∧ 1 ≤ most ∧ most ≤ 12 ∧ 1 ≤ each ∧ each ≤ 16 ∧ Kg M k g ∧ g + 10000 < 1099511627776 ∧ ∀ hs M', CrewOk size hs → (hs.length ≤ most ∧ ∀ h ∈ hs, h.marks.length ≤ each) → KeptB k M M' → Kg M' k (g + 10000) → q (crewD hs) M'
def sd_rule (C : Addr) : SpD := fun ds M q _ => ∃ (k : Addr) (g : Int), ds = [.cel k] ∧ Kg M k g ∧ g + 10 < 1099511627776 ∧ ∀ r M', RuleOk r → KeptB k M M' → Kg M' k (g + 10) → q (.lst [.int r.wide, .str r.spread, .int r.write, .int r.read, .str r.pend]) M'
def sd_build (C : Addr) : SpD := fun ds M q _ => ∃ (k : Addr) (size g : Int) (most each : Nat), ds = [.cel k, .int size, .int most, .int each] ∧ 0 < size ∧ 1 ≤ most ∧ most ≤ 12 ∧ 1 ≤ each ∧ each ≤ 16 ∧ Kg M k g ∧ g + 20000 < 1099511627776 ∧ ∀ r hs M', RuleOk r → CrewOk size hs → (hs.length ≤ most ∧ ∀ h ∈ hs, h.marks.length ≤ each) → KeptB k M M' → Kg M' k (g + 20000) → q (.lst (frameL size r hs)) M'
def sd_filled (C : Addr) : SpD := fun ds M q _ => ∃ (ns : List Int) (t : Nat), ds = [.lsf (ns.map D.int), .int t] ∧ t < 1000 ∧ ns.length ≤ 63 ∧ (∀ n ∈ ns, Builtin.Int.intBits n ≤ 1048576) ∧ ∀ k M', M k = none → Kept M M' → Kg M' k 0 → q (.cel k) M'
def sd_plain (C : Addr) : SpD := fun ds M q _ => ∃ (size : Int) (r : Rule) (hs : List Host), ds = [.lst (frameL size r hs)] ∧ 1 ≤ size ∧ size ≤ 1000000000000000000 ∧ RuleOk r ∧ CrewOk size hs ∧ ∀ M', Kept M M' → q (ringD C size r hs) M'
/-- the names of a rack that none ahead is of, among the first n -/
def firstsN (hs : List Host) (ns : List Str) : Nat → List Str
  | 0 => []
  | n + 1 => match ns[n]? with
    | some x => if rackOf hs x ∈ (ns.take n).map (rackOf hs) then firstsN hs ns n else firstsN hs ns n ++ [x]
    | none => firstsN hs ns n
def keepL (r : Rule) (hs : List Host) (ns : List Str) : List Str := if r.spread = "hosts" then ns.take r.wide.toNat else
  ((firstsN hs ns ns.length).take r.wide.toNat ++ ns.filter fun x => !decide (x ∈ (firstsN hs ns ns.length).take r.wide.toNat)).take r.wide.toNat
def sd_keep (C : Addr) : SpD := fun ds M q _ => ∃ (size : Int) (r : Rule) (hs : List Host) (ns : List Str), ds = [.lst (frameL size r hs), strsL ns] ∧ CrewOk size hs ∧ RuleOk r ∧ ns.length ≤ 12 ∧ (∀ x ∈ ns, x ∈ hs.map (·.name)) ∧ ∀ M', Kept M M' → q (strsL (keepL r hs ns)) M'
def sd_Ring_points (C : Addr) : SpD := fun ds M q _ => ∃ (size : Int) (r : Rule) (hs : List Host), ds = [ringD C size r hs] ∧ q (.int size) M
def sd_Ring_factor (C : Addr) : SpD := fun ds M q _ => ∃ (size : Int) (r : Rule) (hs : List Host), ds = [ringD C size r hs] ∧ q (.int r.wide) M
def sd_Ring_spread (C : Addr) : SpD := fun ds M q _ => ∃ (size : Int) (r : Rule) (hs : List Host), ds = [ringD C size r hs] ∧ q (.str r.spread) M
def sd_Ring_hosts (C : Addr) : SpD := fun ds M q _ => ∃ (size : Int) (r : Rule) (hs : List Host), ds = [ringD C size r hs] ∧ q (crewD hs) M
def sd_check_point (C : Addr) : SpD := fun ds M q _ => ∃ (size : Int) (r : Rule) (hs : List Host) (p : Int), ds = [ringD C size r hs, .int p] ∧ 0 ≤ p ∧ p < size ∧ q .non M
def sd_keepers_in (C : Addr) : SpD := fun ds M q _ => ∃ (size : Int) (r : Rule) (hs : List Host) (ns : List Str), ds = [ringD C size r hs, strsT ns] ∧ CrewOk size hs ∧ RuleOk r ∧ ns.length ≤ 12 ∧ (∀ x ∈ ns, x ∈ hs.map (·.name)) ∧ ∀ M', Kept M M' → q (strsT (keepersOf r hs ns)) M'
def digB (c : Nat) : Bool := decide (48 ≤ c ∧ c ≤ 57)
/-- a written number: one to nineteen digits, no needless zeros -/
def wnB (x : Str) : Bool := decide (1 ≤ x.length ∧ x.length ≤ 19) && (x.cps.toList.all digB && (decide (x = ("0" : Str)) || decide (x.cps.toList.head? ≠ some 48)))
def wnum (x : Str) : Option Int := if wnB x then some ((NumText.digitsVal x.cps.toList : Nat) : Int) else none
def optD : Option Int → D
  | some n => .int n
  | none => .non
def numS (i : Int) : Str := Str.ofString (toString i)
def sd_is_written_number (C : Addr) : SpD := fun ds M q _ => ∃ x : Str, ds = [.str x] ∧ x.length ≤ 16777216 ∧ q (.bl (wnB x)) M
def sd_written_number (C : Addr) : SpD := fun ds M q _ => ∃ x : Str, ds = [.str x] ∧ x.length ≤ 16777216 ∧ q (optD (wnum x)) M
def hostRow (h : Host) : Str := Txt.join " " ((["host", h.name, h.rack] : List Str) ++ h.marks.map numS)
def ringRow (size : Int) (r : Rule) : Str := Txt.join " " (["ring", numS size, numS r.wide, r.spread, numS r.write, numS r.read, r.pend] : List Str)
def sheetS (size : Int) (r : Rule) (hs : List Host) : Str := Txt.join "\n" (ringRow size r :: hs.map hostRow)
/-- a host as it stands in a text -/
structure HostT (size : Int) (h : Host) : Prop where
  name : nameB h.name = true
  rack : nameB h.rack = true
  marks : MarksOk size h.marks
def sd_written_host (C : Addr) : SpD := fun ds M q _ => ∃ (size : Int) (h : Host), ds = [.str (hostRow h)] ∧ size ≤ 1000000000000000000 ∧ HostT size h ∧ ∀ M', Kept M M' → q (hostD h) M'
def sd_Ring_read (C : Addr) : SpD := fun ds M q _ => ∃ (size : Int) (r : Rule) (hs : List Host), ds = [.cel C, .str (sheetS size r hs)] ∧ 1 ≤ size ∧ size ≤ 1000000000000000000 ∧ RuleOk r ∧ CrewOk size hs ∧ ∀ M', Kept M M' → q (ringD C size r hs) M'
def sd_sheet (C : Addr) : SpD := fun ds M q _ => ∃ (size : Int) (r : Rule) (hs : List Host), ds = [.lst (frameL size r hs)] ∧ 1 ≤ size ∧ size ≤ 1000000000000000000 ∧ RuleOk r ∧ CrewOk size hs ∧ ∀ M', Kept M M' → q (.str (sheetS size r hs)) M'
def sd_made (C : Addr) : SpD := fun ds M q _ => ∃ (k : Addr) (g : Int) (size : Int) (r : Rule) (hs : List Host), ds = [.cel k, .lst (frameL size r hs)] ∧ 1 ≤ size ∧ size ≤ 1000000000000000000 ∧ RuleOk r ∧ CrewOk size hs ∧ Kg M k g ∧ g + 10 < 1099511627776 ∧ ∀ M', KeptB k M M' → Kg M' k (g + 1) → q (ringD C size r hs) M'
def sd_width (C : Addr) : SpD := fun ds M q _ => ∃ (k : Addr) (g : Int), ds = [.cel k] ∧ Kg M k g ∧ g + 20 < 1099511627776 ∧ ∀ v M', 1 ≤ v → v ≤ 1000000000000000000 → KeptB k M M' → Kg M' k (g + 10) → q (.int v) M'
def sd_far (C : Addr) : SpD := fun ds M q _ => ∃ (size p : Int) (r : Rule) (hs : List Host), ds = [.lst (frameL size r hs), .int p] ∧ 0 < size ∧ CrewOk size hs ∧ ∀ ns M', WalkOf size p hs ns → Kept M M' → q (strsL ns) M'
def sd_borders (C : Addr) : SpD := fun ds M q _ => ∃ (size : Int) (hs : List Host), ds = [crewD hs] ∧ CrewOk size hs ∧ ∀ (ms : List Int) M', ms.Perm (hs.flatMap (·.marks)) → ms.Pairwise (· ≤ ·) → Kept M M' → q (.lst (ms.map D.int)) M'
def sd_Ring_names (C : Addr) : SpD := fun ds M q _ => ∃ (size : Int) (r : Rule) (hs : List Host), ds = [ringD C size r hs] ∧ hs.length ≤ 12 ∧ ∀ ys : List Str, ys.Perm (hs.map (·.name)) → PyProof.Rows.sortedS ys = true → q (strsT ys) M
def sd_Ring___contains__ (C : Addr) : SpD := fun ds M q _ => ∃ (size : Int) (r : Rule) (hs : List Host) (d : D), ds = [ringD C size r hs, d] ∧ hs.length ≤ 12 ∧ ((∃ x : Str, d = .str x ∧ q (.bl (decide (x ∈ hs.map (·.name)))) M) ∨ ∃ t, tyD M d = some t ∧ t ≠ "str" ∧ q (.bl false) M)
def sd_check_name (C : Addr) : SpD := fun ds M q _ => ∃ (size : Int) (r : Rule) (hs : List Host) (x : Str), ds = [ringD C size r hs, .str x] ∧ hs.length ≤ 12 ∧ x ∈ hs.map (·.name) ∧ q .non M
end R
set_option maxRecDepth 100000
namespace R
open PySem PySem.Spec PyProof.Rows L2 DL
abbrev N_filled : List Str := ["_law_script", "_law_turn", "_law_own", "_law_mix", "_law_cell"]
def db_filled (C : Addr) : DS :=
    (dSeq (dSet 2 (dIf (dTst (dOp rdLt (dVar 1) (dCB rdLen (dCons (dVar 0) dNil)))) (dOp rdIx (dVar 0) (dVar 1)) (dC (.int 0))))
    (dSeq (dSet 3 (dOp rdAdd (dC (.int 90007)) (dOp rdMul (dC (.int 4409)) (dVar 1))))
    (dSeq (dFor (dIter (dSl rdSl (dVar 0) dNo (dPart (dC (.int 6))))) (gdName 4) (dSet 3 (dOp rdMod (dCB rdInt (dCons (dOp rdAdd (dOp rdAdd (dOp rdMul (dVar 3) (dC (.int 33347))) (dOp rdMul (dVar 4) (dC (.int 11)))) (dC (.int 29))) dNil)) (dC (.int 2147483543)))))
    (dRet (dLstC (dCons (dIf (dOr (dTst (dOp rdLt (dVar 2) (dC (.int 0)))) (dTst (dOp rdGe (dVar 2) (dOp rdPow (dC (.int 10)) (dC (.int 18)))))) (dCB rdAbs (dCons (dVar 2) dNil)) (dC (.int 0))) (dCons (dOp rdMod (dCB rdInt (dCons (dOp rdAdd (dOp rdAdd (dOp rdMul (dVar 3) (dC (.int 71))) (dOp rdMul (dVar 2) (dVar 2))) (dOp rdMul (dC (.int 13)) (dVar 1))) dNil)) (dC (.int 2147483543))) (dCons (dC (.int 0)) dNil))))))))
abbrev N_borders : List Str := ["_law_crew", "_law_found", "_law_tag", "_law_bay", "_law_spots"]
def db_borders (C : Addr) : DS :=
    (dSeq (dSet 1 (dLst dNil))
    (dSeq (dFor (dIter (dVar 0)) (gdTup 3 (gdCons (gdName 2) (gdCons (gdName 3) (gdCons (gdName 4) gdNil)))) (dSet 1 (dOp rdAdd (dVar 1) (dCB rdList (dCons (dVar 4) dNil)))))
    (dRet (dCB rdSortI (dCons (dVar 1) dNil)))))
abbrev N_dip : List Str := ["_law_keg", "_law_many", "_law_figure", "_law_mix"]
def db_dip (C : Addr) : DS :=
    (dSeq (dIfS (dTst (dOp rdGt (dOp rdIx (dVar 0) (dC (.int 0))) (dC (.int 0)))) (dSeq (dAsg (dCB rdDivmod (dCons (dOp rdIx (dVar 0) (dC (.int 0))) (dCons (dVar 1) dNil))) (gdTup 2 (gdCons (gdSub (dVar 0) (dC (.int 0))) (gdCons (gdName 2) gdNil))))
    (dRet (dVar 2))) dNext)
    (dSeq (dAsg (dOp rdAdd (dOp rdIx (dVar 0) (dC (.int 2))) (dC (.int 1))) (gdSub (dVar 0) (dC (.int 2))))
    (dSeq (dSet 3 (dOp rdMod (dCB rdInt (dCons (dOp rdAdd (dOp rdAdd (dOp rdMul (dOp rdIx (dVar 0) (dC (.int 1))) (dOp rdAdd (dC (.int 39877)) (dOp rdMul (dC (.int 2)) (dOp rdIx (dVar 0) (dC (.int 2)))))) (dOp rdMul (dC (.int 6151)) (dOp rdIx (dVar 0) (dC (.int 2))))) (dC (.int 3))) dNil)) (dC (.int 2147483543))))
    (dSeq (dAsg (dOp rdMod (dCB rdInt (dCons (dOp rdAdd (dOp rdMul (dVar 3) (dC (.int 44491))) (dOp rdMul (dOp rdIx (dVar 0) (dC (.int 2))) (dOp rdIx (dVar 0) (dC (.int 2))))) dNil)) (dC (.int 2147483497))) (gdSub (dVar 0) (dC (.int 1))))
    (dRet (dOp rdMod (dCB rdInt (dCons (dOp rdDiv (dOp rdIx (dVar 0) (dC (.int 1))) (dC (.int 512))) dNil)) (dVar 1)))))))
abbrev N_free : List Str := ["_law_size", "_law_taken", "_law_wish", "_law_step"]
def db_free (C : Addr) : DS :=
    (dSeq (dFor (dRng1 (dCons (dOp rdAdd (dCB rdLen (dCons (dVar 1) dNil)) (dC (.int 1))) dNil)) (gdName 3) (dIfS (dTst (dOp (rdIn true) (dOp rdMod (dCB rdInt (dCons (dOp rdAdd (dVar 2) (dVar 3)) dNil)) (dVar 0)) (dVar 1))) (dRet (dOp rdMod (dCB rdInt (dCons (dOp rdAdd (dVar 2) (dVar 3)) dNil)) (dVar 0))) dNext))
    (dRet (dVar 2)))
abbrev N_far : List Str := ["_law_frame", "_law_start", "_law_pairs", "_law_tag", "_law_bay", "_law_spots", "_law_spot", "_law_way"]
def db_far (C : Addr) : DS :=
    (dSeq (dSet 2 (dLstC dNil))
    (dSeq (dFor (dIter (dOp rdIx (dVar 0) (dC (.int 6)))) (gdTup 3 (gdCons (gdName 3) (gdCons (gdName 4) (gdCons (gdName 5) gdNil)))) (dExp (dApp (dVar 2) (dCons (dTup (dCons (dCB rdMinL (dCons (dLc (dIter (dVar 5)) (gdName 6) dYes (dOp rdMod (dCB rdInt (dCons (dOp rdSub (dVar 6) (dVar 1)) dNil)) (dOp rdIx (dVar 0) (dC (.int 0)))) [6]) dNil)) (dCons (dVar 3) dNil))) dNil))))
    (dRet (dLc (dIter (dCB rdSortP (dCons (dVar 2) dNil))) (gdTup 2 (gdCons (gdName 7) (gdCons (gdName 3) gdNil))) dYes (dVar 3) [7, 3]))))
abbrev N_keep : List Str := ["_law_frame", "_law_met", "_law_bays", "_law_first", "_law_at", "_law_tag", "_law_bay", "_law_spots", "_law_each"]
def db_keep (C : Addr) : DS :=
    (dSeq (dIfS (dTst (dOp rdEq (dOp rdIx (dVar 0) (dC (.int 2))) (dC (.str "hosts")))) (dRet (dSl rdSl (dVar 1) dNo (dPart (dOp rdIx (dVar 0) (dC (.int 1)))))) dNext)
    (dSeq (dSet 2 (dCB rdDictC (dCons (dLc (dIter (dOp rdIx (dVar 0) (dC (.int 6)))) (gdTup 3 (gdCons (gdName 5) (gdCons (gdName 6) (gdCons (gdName 7) gdNil)))) dYes (dTup (dCons (dVar 5) (dCons (dVar 6) dNil))) [5, 6, 7]) dNil)))
    (dSeq (dSet 3 (dLstC dNil))
    (dSeq (dFor (dRng1 (dCons (dCB rdLen (dCons (dVar 1) dNil)) dNil)) (gdName 4) (dIfS (dTst (dOp (rdIn true) (dDGet (dVar 2) (dOp rdIx (dVar 1) (dVar 4))) (dLc (dIter (dSl rdSl (dVar 1) dNo (dPart (dVar 4)))) (gdName 8) dYes (dDGet (dVar 2) (dVar 8)) [8]))) (dExp (dApp (dVar 3) (dCons (dOp rdIx (dVar 1) (dVar 4)) dNil))) dNext))
    (dSeq (dSet 3 (dSl rdSl (dVar 3) dNo (dPart (dOp rdIx (dVar 0) (dC (.int 1))))))
    (dRet (dSl rdSl (dOp rdAdd (dVar 3) (dLc (dIter (dVar 1)) (gdName 8) (dTst (dOp (rdIn true) (dVar 8) (dVar 3))) (dVar 8) [8])) dNo (dPart (dOp rdIx (dVar 0) (dC (.int 1)))))))))))
abbrev N_sheet : List Str := ["_law_frame", "_law_size", "_law_wide", "_law_word", "_law_puts", "_law_gets", "_law_mode", "_law_crew", "_law_rows", "_law_tag", "_law_bay", "_law_spots", "_law_spot"]
def db_sheet (C : Addr) : DS :=
    (dSeq (dAsg (dVar 0) (gdLst 7 (gdCons (gdName 1) (gdCons (gdName 2) (gdCons (gdName 3) (gdCons (gdName 4) (gdCons (gdName 5) (gdCons (gdName 6) (gdCons (gdName 7) gdNil)))))))))
    (dSeq (dSet 8 (dLstC (dCons (dM1 rdJoin (dC (.str " ")) (dLst (dCons (dC (.str "ring")) (dCons (dCB rdStrI (dCons (dVar 1) dNil)) (dCons (dCB rdStrI (dCons (dVar 2) dNil)) (dCons (dVar 3) (dCons (dCB rdStrI (dCons (dVar 4) dNil)) (dCons (dCB rdStrI (dCons (dVar 5) dNil)) (dCons (dVar 6) dNil))))))))) dNil)))
    (dSeq (dFor (dIter (dVar 7)) (gdTup 3 (gdCons (gdName 9) (gdCons (gdName 10) (gdCons (gdName 11) gdNil)))) (dExp (dApp (dVar 8) (dCons (dM1 rdJoin (dC (.str " ")) (dOp rdAdd (dLst (dCons (dC (.str "host")) (dCons (dVar 9) (dCons (dVar 10) dNil)))) (dLc (dIter (dVar 11)) (gdName 12) dYes (dCB rdStrI (dCons (dVar 12) dNil)) [12]))) dNil))))
    (dRet (dM1 rdJoin (dC (.str "\n")) (dVar 8))))))
abbrev N_is_ascending : List Str := ["row", "one", "other"]
def db_is_ascending (C : Addr) : DS :=
    (dRet (dCB rdAll (dCons (dLc (dZip (dCons (dVar 0) (dCons (dSl rdSl (dVar 0) (dPart (dC (.int 1))) dNo) dNil))) (gdTup 2 (gdCons (gdName 1) (gdCons (gdName 2) gdNil))) dYes (dOp rdLt (dVar 1) (dVar 2)) [1, 2]) dNil)))
abbrev N_is_whole : List Str := ["value"]
def db_is_whole (C : Addr) : DS :=
    (dRet (dAndV (dIsi "int" (dVar 0)) (dNotV (dIsi "bool" (dVar 0)))))
abbrev N_is_name : List Str := ["value", "sign"]
def db_is_name (C : Addr) : DS :=
    (dSeq (dIfS (dOr (dNot (dTru (dIsi "str" (dVar 0)))) (dNot (dTst (dChn rdLe rdLe (dC (.int 1)) (dCB rdLen (dCons (dVar 0) dNil)) (dC (.int 8)))))) (dRet (dC (.bl false))) dNext)
    (dRet (dAndV (dOp (rdIn false) (dOp rdIx (dVar 0) (dC (.int 0))) (dC (.str "abcdefghijklmnopqrstuvwxyz"))) (dCB rdAll (dCons (dLc (dIterS (dVar 0)) (gdName 1) dYes (dOp (rdIn false) (dVar 1) (dOp rdAdd (dC (.str "abcdefghijklmnopqrstuvwxyz")) (dC (.str "0123456789")))) [1]) dNil)))))
abbrev N_is_word_of : List Str := ["value", "words"]
def db_is_word_of (C : Addr) : DS :=
    (dRet (dAndV (dIsi "str" (dVar 0)) (dOp (rdIn false) (dVar 0) (dVar 1))))
abbrev N_is_written_number : List Str := ["word", "sign"]
def db_is_written_number (C : Addr) : DS :=
    (dSeq (dIfS (dNot (dTst (dChn rdLe rdLe (dC (.int 1)) (dCB rdLen (dCons (dVar 0) dNil)) (dC (.int 19))))) (dRet (dC (.bl false))) dNext)
    (dRet (dAndV (dCB rdAll (dCons (dLc (dIterS (dVar 0)) (gdName 1) dYes (dOp (rdIn false) (dVar 1) (dC (.str "0123456789"))) [1]) dNil)) (dOrV (dOp rdEq (dVar 0) (dC (.str "0"))) (dOp rdNe (dOp rdIx (dVar 0) (dC (.int 0))) (dC (.str "0")))))))
abbrev N_Ring_hosts : List Str := ["self"]
def db_Ring_hosts (C : Addr) : DS :=
    (dRet (dFld C "_hosts" (dVar 0)))
abbrev N_Ring_factor : List Str := ["self"]
def db_Ring_factor (C : Addr) : DS :=
    (dRet (dFld C "_factor" (dVar 0)))
abbrev N_Ring_spread : List Str := ["self"]
def db_Ring_spread (C : Addr) : DS :=
    (dRet (dFld C "_spread" (dVar 0)))
abbrev N_Ring_points : List Str := ["self"]
def db_Ring_points (C : Addr) : DS :=
    (dRet (dFld C "_points" (dVar 0)))
abbrev N_Ring__way : List Str := ["self", "point", "marks", "mark"]
def db_Ring__way (C : Addr) : DS :=
    (dRet (dCB rdMinL (dCons (dLc (dIter (dVar 2)) (gdName 3) dYes (dOp rdMod (dOp rdSub (dVar 3) (dVar 1)) (dFld C "_points" (dVar 0))) [3]) dNil)))
abbrev N_of : List Str := ["_law_keg", "_law_things"]
def db_of (C : Addr) : DS :=
    (dRet (dOp rdIx (dVar 1) (dCall 2 (sd_dip C) (dCons (dVar 0) (dCons (dCB rdLen (dCons (dVar 1) dNil)) dNil)))))
abbrev N_vast : List Str := ["_law_keg", "_law_many", "_law_found", "_law_turn"]
def db_vast (C : Addr) : DS :=
    (dSeq (dSet 2 (dC (.int 0)))
    (dSeq (dFor (dRng1 (dCons (dC (.int 4)) dNil)) (gdName 3) (dSet 2 (dOp rdAdd (dOp rdMul (dVar 2) (dC (.int 1000003))) (dCall 2 (sd_dip C) (dCons (dVar 0) (dCons (dC (.int 1000003)) dNil))))))
    (dRet (dOp rdMod (dCB rdInt (dCons (dVar 2) dNil)) (dVar 1)))))
abbrev N_is_from_to : List Str := ["value", "least", "most"]
def db_is_from_to (C : Addr) : DS :=
    (dRet (dAndV (dCall 1 (sd_is_whole C) (dCons (dVar 0) dNil)) (dChn rdLe rdLe (dVar 1) (dVar 0) (dVar 2))))
abbrev N_is_free_name : List Str := ["value", "hosts", "host"]
def db_is_free_name (C : Addr) : DS :=
    (dRet (dAndV (dCall 1 (sd_is_name C) (dCons (dVar 0) dNil)) (dNotV (dCB rdAny (dCons (dLc (dIter (dVar 1)) (gdName 2) dYes (dOp rdEq (dVar 0) (dOp rdIx (dVar 2) (dC (.int 0)))) [2]) dNil)))))
abbrev N_written_number : List Str := ["word"]
def db_written_number (C : Addr) : DS :=
    (dSeq (dIfS (dNot (dTru (dCall 1 (sd_is_written_number C) (dCons (dVar 0) dNil)))) (dRet (dC .non)) dNext)
    (dRet (dCB rdIntS (dCons (dVar 0) dNil))))
abbrev N_place : List Str := ["_law_keg", "_law_size", "_law_taken", "_law_way"]
def db_place (C : Addr) : DS :=
    (dSeq (dSet 3 (dCall 2 (sd_dip C) (dCons (dVar 0) (dCons (dC (.int 8)) dNil))))
    (dSeq (dIfS (dTst (dOp rdEq (dVar 3) (dC (.int 0)))) (dRet (dOp rdIx (dLst (dCons (dC (.int 0)) (dCons (dOp rdSub (dVar 1) (dC (.int 1))) dNil))) (dCall 2 (sd_dip C) (dCons (dVar 0) (dCons (dC (.int 2)) dNil))))) dNext)
    (dSeq (dIfS (dAnd (dTst (dOp rdLt (dVar 3) (dC (.int 4)))) (dTst (dOp rdNe (dVar 2) (dLst dNil)))) (dRet (dOp rdMod (dCB rdInt (dCons (dOp rdSub (dOp rdAdd (dCall 2 (sd_of C) (dCons (dVar 0) (dCons (dVar 2) dNil))) (dCall 2 (sd_dip C) (dCons (dVar 0) (dCons (dC (.int 5)) dNil)))) (dC (.int 2))) dNil)) (dVar 1))) dNext)
    (dRet (dIf (dTst (dOp rdLt (dVar 1) (dC (.int 1000)))) (dCall 2 (sd_dip C) (dCons (dVar 0) (dCons (dVar 1) dNil))) (dCall 2 (sd_vast C) (dCons (dVar 0) (dCons (dVar 1) dNil))))))))
abbrev N_title : List Str := ["_law_keg", "_law_small", "_law_found", "_law_turn"]
def db_title (C : Addr) : DS :=
    (dSeq (dSet 1 (dC (.str "abcdefghijklmnopqrstuvwxyz")))
    (dSeq (dIfS (dTst (dOp rdEq (dCall 2 (sd_dip C) (dCons (dVar 0) (dCons (dC (.int 6)) dNil))) (dC (.int 0)))) (dRet (dCall 2 (sd_of C) (dCons (dVar 0) (dCons (dLst (dCons (dC (.str "ring")) (dCons (dC (.str "host")) (dCons (dC (.str "plan")) (dCons (dC (.str "hosts")) (dCons (dC (.str "racks")) (dCons (dC (.str "with")) (dCons (dC (.str "plain")) (dCons (dC (.str "join")) (dCons (dC (.str "settle")) dNil)))))))))) dNil)))) dNext)
    (dSeq (dSet 2 (dOp rdIx (dVar 1) (dCall 2 (sd_dip C) (dCons (dVar 0) (dCons (dC (.int 26)) dNil)))))
    (dSeq (dFor (dRng1 (dCons (dCall 2 (sd_of C) (dCons (dVar 0) (dCons (dLst (dCons (dC (.int 0)) (dCons (dC (.int 0)) (dCons (dC (.int 1)) (dCons (dC (.int 2)) (dCons (dC (.int 7)) (dCons (dC (.int 3)) dNil))))))) dNil))) dNil)) (gdName 3) (dSet 2 (dOp rdAdd (dVar 2) (dOp rdIx (dOp rdAdd (dVar 1) (dC (.str "0123456789"))) (dCall 2 (sd_dip C) (dCons (dVar 0) (dCons (dC (.int 36)) dNil)))))))
    (dRet (dVar 2))))))
abbrev N_rule : List Str := ["_law_keg", "_law_wide", "_law_found"]
def db_rule (C : Addr) : DS :=
    (dSeq (dSet 1 (dOp rdAdd (dC (.int 1)) (dCall 2 (sd_dip C) (dCons (dVar 0) (dCons (dC (.int 5)) dNil)))))
    (dSeq (dSet 2 (dLst (dCons (dVar 1) (dCons (dCall 2 (sd_of C) (dCons (dVar 0) (dCons (dLst (dCons (dC (.str "hosts")) (dCons (dC (.str "racks")) dNil))) dNil))) dNil))))
    (dRet (dOp rdAdd (dVar 2) (dLst (dCons (dOp rdAdd (dC (.int 1)) (dCall 2 (sd_dip C) (dCons (dVar 0) (dCons (dVar 1) dNil)))) (dCons (dOp rdAdd (dC (.int 1)) (dCall 2 (sd_dip C) (dCons (dVar 0) (dCons (dVar 1) dNil)))) (dCons (dCall 2 (sd_of C) (dCons (dVar 0) (dCons (dLst (dCons (dC (.str "plain")) (dCons (dC (.str "with")) dNil))) dNil))) dNil))))))))
abbrev N_are_free_marks : List Str := ["value", "points", "hosts", "mark", "host"]
def db_are_free_marks (C : Addr) : DS :=
    (dSeq (dIfS (dOr (dNot (dTru (dIsi "tuple" (dVar 0)))) (dNot (dTst (dChn rdLe rdLe (dC (.int 1)) (dCB rdLen (dCons (dVar 0) dNil)) (dC (.int 16)))))) (dRet (dC (.bl false))) dNext)
    (dSeq (dIfS (dOr (dNot (dTru (dCB rdAll (dCons (dLc (dIter (dVar 0)) (gdName 3) dYes (dCall 3 (sd_is_from_to C) (dCons (dVar 3) (dCons (dC (.int 0)) (dCons (dOp rdSub (dVar 1) (dC (.int 1))) dNil)))) [3]) dNil)))) (dNot (dTru (dCall 1 (sd_is_ascending C) (dCons (dVar 0) dNil))))) (dRet (dC (.bl false))) dNext)
    (dRet (dNotV (dCB rdAny (dCons (dLc2 (dIter (dVar 2)) (gdName 4) dYes (dIter (dVar 0)) (gdName 3) dYes (dOp (rdIn false) (dVar 3) (dOp rdIx (dVar 4) (dC (.int 2)))) [4, 3] [3]) dNil))))))
abbrev N_written_host : List Str := ["row", "words", "word"]
def db_written_host (C : Addr) : DS :=
    (dSeq (dSet 1 (dM1 rdSplit (dVar 0) (dC (.str " "))))
    (dSeq (dIfS (dOr (dTst (dOp rdNe (dOp rdIx (dVar 1) (dC (.int 0))) (dC (.str "host")))) (dTst (dOp rdLt (dCB rdLen (dCons (dVar 1) dNil)) (dC (.int 4))))) (dRet (dC .non)) dNext)
    (dRet (dTup (dCons (dOp rdIx (dVar 1) (dC (.int 1))) (dCons (dOp rdIx (dVar 1) (dC (.int 2))) (dCons (dCB rdTuple (dCons (dLc (dIter (dSl rdSl (dVar 1) (dPart (dC (.int 3))) dNo)) (gdName 2) dYes (dCall 1 (sd_written_number C) (dCons (dVar 2) dNil)) [2]) dNil)) dNil)))))))
abbrev N_width : List Str := ["_law_keg", "_law_way"]
def db_width (C : Addr) : DS :=
    (dSeq (dSet 1 (dCall 2 (sd_dip C) (dCons (dVar 0) (dCons (dC (.int 6)) dNil))))
    (dSeq (dIfS (dTst (dOp rdLt (dVar 1) (dC (.int 2)))) (dRet (dOp rdAdd (dC (.int 1)) (dCall 2 (sd_dip C) (dCons (dVar 0) (dCons (dC (.int 30)) dNil))))) dNext)
    (dSeq (dIfS (dTst (dOp rdLt (dVar 1) (dC (.int 4)))) (dRet (dOp rdIx (dLst (dCons (dOp rdPow (dC (.int 10)) (dC (.int 18))) (dCons (dOp rdSub (dOp rdPow (dC (.int 10)) (dC (.int 18))) (dC (.int 1))) dNil))) (dOp rdSub (dVar 1) (dC (.int 2))))) dNext)
    (dRet (dIf (dTst (dOp rdEq (dVar 1) (dC (.int 4)))) (dOp rdAdd (dC (.int 1)) (dCall 2 (sd_dip C) (dCons (dVar 0) (dCons (dOp rdPow (dC (.int 10)) (dC (.int 5))) dNil)))) (dOp rdAdd (dC (.int 1)) (dCall 2 (sd_vast C) (dCons (dVar 0) (dCons (dOp rdPow (dC (.int 10)) (dC (.int 18))) dNil)))))))))
abbrev N_new_racks_first : List Str := ["ring", "walk", "rack_of", "racks", "firsts", "others", "name", "rack", "_"]
def db_new_racks_first (C : Addr) : DS :=
    (dSeq (dSet 2 (dDc (dIter (dProp C (sd_Ring_hosts C) (dVar 0))) (gdTup 3 (gdCons (gdName 6) (gdCons (gdName 7) (gdCons (gdName 8) gdNil)))) dYes (dVar 6) (dVar 7) [6, 7, 8]))
    (dSeq (dSet 3 (dLstC dNil))
    (dSeq (dSet 4 (dLstC dNil))
    (dSeq (dSet 5 (dLstC dNil))
    (dSeq (dFor (dIter (dVar 1)) (gdName 6) (dSeq (dSet 7 (dDGet (dVar 2) (dVar 6)))
    (dIfS (dTst (dOp (rdIn false) (dVar 7) (dVar 3))) (dExp (dApp (dVar 5) (dCons (dVar 6) dNil))) (dSeq (dExp (dApp (dVar 3) (dCons (dVar 7) dNil)))
    (dExp (dApp (dVar 4) (dCons (dVar 6) dNil)))))))
    (dRet (dCB rdTuple (dCons (dOp rdAdd (dVar 4) (dVar 5)) dNil))))))))
abbrev N_check_point : List Str := ["ring", "point"]
def db_check_point (C : Addr) : DS :=
    (dIfS (dNot (dTru (dCall 3 (sd_is_from_to C) (dCons (dVar 1) (dCons (dC (.int 0)) (dCons (dOp rdSub (dProp C (sd_Ring_points C) (dVar 0)) (dC (.int 1))) dNil)))))) dNever dNext)
abbrev N_titles : List Str := ["_law_keg", "_law_many", "_law_spare", "_law_found", "_law_turn", "_law_tag", "_law_each"]
def db_titles (C : Addr) : DS :=
    (dSeq (dAsg (dTup (dCons (dLst (dCons (dC (.str "a")) (dCons (dC (.str "b")) (dCons (dC (.str "a1")) (dCons (dC (.str "a2")) (dCons (dC (.str "zz9")) (dCons (dC (.str "q")) (dCons (dC (.str "r1")) (dCons (dC (.str "x")) (dCons (dC (.str "y")) (dCons (dC (.str "z")) (dCons (dC (.str "h0")) (dCons (dC (.str "h1")) dNil))))))))))))) (dCons (dLstC dNil) dNil))) (gdTup 2 (gdCons (gdName 2) (gdCons (gdName 3) gdNil))))
    (dSeq (dFor (dRng1 (dCons (dVar 1) dNil)) (gdName 4) (dSeq (dSet 5 (dCall 1 (sd_title C) (dCons (dVar 0) dNil)))
    (dSeq (dIfS (dAnd (dTst (dOp rdNe (dVar 3) (dLst dNil))) (dTst (dOp rdEq (dCall 2 (sd_dip C) (dCons (dVar 0) (dCons (dC (.int 4)) dNil))) (dC (.int 0))))) (dSet 5 (dOp rdAdd (dSl rdSl (dOp rdIx (dVar 3) (dC (.int 0))) dNo (dPart (dC (.int 7)))) (dOp rdIx (dC (.str "0123456789ab")) (dVar 4)))) dNext)
    (dExp (dApp (dVar 3) (dCons (dOp rdIx (dLc (dIter (dOp rdAdd (dLst (dCons (dVar 5) dNil)) (dVar 2))) (gdName 6) (dTst (dOp (rdIn true) (dVar 6) (dVar 3))) (dVar 6) [6]) (dC (.int 0))) dNil))))))
    (dRetF (dVar 3))))
abbrev N_is_next_host : List Str := ["value", "points", "hosts", "name", "rack", "marks"]
def db_is_next_host (C : Addr) : DS :=
    (dSeq (dIfS (dOr (dNot (dTru (dIsi "tuple" (dVar 0)))) (dTst (dOp rdNe (dCB rdLen (dCons (dVar 0) dNil)) (dC (.int 3))))) (dRet (dC (.bl false))) dNext)
    (dSeq (dAsg (dVar 0) (gdTup 3 (gdCons (gdName 3) (gdCons (gdName 4) (gdCons (gdName 5) gdNil)))))
    (dRet (dAndV (dCall 2 (sd_is_free_name C) (dCons (dVar 3) (dCons (dVar 2) dNil))) (dAndV (dCall 1 (sd_is_name C) (dCons (dVar 4) dNil)) (dCall 3 (sd_are_free_marks C) (dCons (dVar 5) (dCons (dVar 1) (dCons (dVar 2) dNil)))))))))
abbrev N_keepers_in : List Str := ["ring", "walk", "names"]
def db_keepers_in (C : Addr) : DS :=
    (dSeq (dSet 2 (dIf (dTst (dOp rdEq (dProp C (sd_Ring_spread C) (dVar 0)) (dC (.str "racks")))) (dCall 2 (sd_new_racks_first C) (dCons (dVar 0) (dCons (dVar 1) dNil))) (dVar 1)))
    (dRet (dSl rdSl (dVar 2) dNo (dPart (dProp C (sd_Ring_factor C) (dVar 0))))))
abbrev N_Ring_walk : List Str := ["self", "point", "met", "host", "_", "name"]
def db_Ring_walk (C : Addr) : DS :=
    (dSeq (dExp (dCall 2 (sd_check_point C) (dCons (dVar 0) (dCons (dVar 1) dNil))))
    (dSeq (dSet 2 (dCB rdSortP (dCons (dLc (dIter (dFld C "_hosts" (dVar 0))) (gdName 3) dYes (dTup (dCons (dMeth C "_way" 3 (sd_Ring__way C) (dVar 0) (dCons (dVar 1) (dCons (dOp rdIx (dVar 3) (dC (.int 2))) dNil))) (dCons (dOp rdIx (dVar 3) (dC (.int 0))) dNil))) [3]) dNil)))
    (dRet (dCB rdTuple (dCons (dLc (dIter (dVar 2)) (gdTup 2 (gdCons (gdName 4) (gdCons (gdName 5) gdNil))) dYes (dVar 5) [4, 5]) dNil)))))
abbrev N_yards : List Str := ["_law_keg", "_law_many", "_law_pool", "_law_turn"]
def db_yards (C : Addr) : DS :=
    (dSeq (dSet 2 (dCall 2 (sd_titles C) (dCons (dVar 0) (dCons (dOp rdAdd (dC (.int 1)) (dCall 2 (sd_dip C) (dCons (dVar 0) (dCons (dC (.int 4)) dNil)))) dNil))))
    (dRet (dLc (dRng1 (dCons (dVar 1) dNil)) (gdName 3) dYes (dCall 2 (sd_of C) (dCons (dVar 0) (dCons (dVar 2) dNil))) [3])))
abbrev N_check_hosts : List Str := ["points", "hosts", "index", "host"]
def db_check_hosts (C : Addr) : DS :=
    (dSeq (dIfS (dOr (dNot (dTru (dIsi "tuple" (dVar 1)))) (dTst (dOp rdEq (dCB rdLen (dCons (dVar 1) dNil)) (dC (.int 0))))) dNever dNext)
    (dFor (dEnum (dCons (dVar 1) dNil)) (gdTup 2 (gdCons (gdName 2) (gdCons (gdName 3) gdNil))) (dIfS (dOr (dTst (dOp rdEq (dVar 2) (dC (.int 12)))) (dNot (dTru (dCall 3 (sd_is_next_host C) (dCons (dVar 3) (dCons (dVar 0) (dCons (dSl rdSl (dVar 1) dNo (dPart (dVar 2))) dNil))))))) dNever dNext)))
abbrev N_band : List Str := ["_law_keg", "_law_size", "_law_most", "_law_each", "_law_many", "_law_taken", "_law_found", "_law_tags", "_law_bays", "_law_at", "_law_spots", "_law_room", "_law_turn", "_law_spot"]
def db_band (C : Addr) : DS :=
    (dSeq (dPar3 4 5 6 (dCons (dCB rdMin2 (dCons (dOp rdAdd (dC (.int 1)) (dCall 2 (sd_dip C) (dCons (dVar 0) (dCons (dVar 2) dNil)))) (dCons (dVar 1) dNil))) (dCons (dLstC dNil) (dCons (dLstC dNil) dNil))))
    (dSeq (dPar2 7 8 (dCons (dCall 2 (sd_titles C) (dCons (dVar 0) (dCons (dVar 4) dNil))) (dCons (dCall 2 (sd_yards C) (dCons (dVar 0) (dCons (dVar 4) dNil))) dNil)))
    (dSeq (dFor (dRng1 (dCons (dVar 4) dNil)) (gdName 9) (dSeq (dPar2 10 11 (dCons (dLstC dNil) (dCons (dOp rdSub (dOp rdSub (dVar 1) (dCB rdLen (dCons (dVar 5) dNil))) (dOp rdSub (dOp rdSub (dVar 4) (dC (.int 1))) (dVar 9))) dNil)))
    (dSeq (dFor (dRng1 (dCons (dCB rdMin2 (dCons (dOp rdAdd (dC (.int 1)) (dCall 2 (sd_dip C) (dCons (dVar 0) (dCons (dVar 3) dNil)))) (dCons (dVar 11) dNil))) dNil)) (gdName 12) (dSeq (dSet 13 (dCall 3 (sd_free C) (dCons (dVar 1) (dCons (dVar 5) (dCons (dCall 3 (sd_place C) (dCons (dVar 0) (dCons (dVar 1) (dCons (dVar 5) dNil)))) dNil)))))
    (dSeq (dExp (dApp (dVar 10) (dCons (dVar 13) dNil)))
    (dExp (dApp (dVar 5) (dCons (dVar 13) dNil))))))
    (dExp (dApp (dVar 6) (dCons (dTup (dCons (dOp rdIx (dVar 7) (dVar 9)) (dCons (dOp rdIx (dVar 8) (dVar 9)) (dCons (dCB rdTuple (dCons (dCB rdSortI (dCons (dVar 10) dNil)) dNil)) dNil)))) dNil))))))
    (dRet (dCB rdTuple (dCons (dVar 6) dNil))))))
abbrev N_Ring___init__ : List Str := ["self", "points", "factor", "spread", "write", "read", "pending", "hosts"]
def db_Ring___init__ (C : Addr) : DS :=
    (dSeq (dIfS (dNot (dTru (dCall 3 (sd_is_from_to C) (dCons (dVar 1) (dCons (dC (.int 1)) (dCons (dC (.int 1000000000000000000)) dNil)))))) dNever dNext)
    (dSeq (dIfS (dNot (dTru (dCall 3 (sd_is_from_to C) (dCons (dVar 2) (dCons (dC (.int 1)) (dCons (dC (.int 5)) dNil)))))) dNever dNext)
    (dSeq (dIfS (dNot (dTru (dCall 2 (sd_is_word_of C) (dCons (dVar 3) (dCons (dC (.tup [.str "hosts", .str "racks"])) dNil))))) dNever dNext)
    (dSeq (dIfS (dNot (dTru (dCall 3 (sd_is_from_to C) (dCons (dVar 4) (dCons (dC (.int 1)) (dCons (dVar 2) dNil)))))) dNever dNext)
    (dSeq (dIfS (dNot (dTru (dCall 3 (sd_is_from_to C) (dCons (dVar 5) (dCons (dC (.int 1)) (dCons (dVar 2) dNil)))))) dNever dNext)
    (dSeq (dIfS (dNot (dTru (dCall 2 (sd_is_word_of C) (dCons (dVar 6) (dCons (dC (.tup [.str "plain", .str "with"])) dNil))))) dNever dNext)
    (dSeq (dExp (dCall 2 (sd_check_hosts C) (dCons (dVar 1) (dCons (dVar 7) dNil))))
    (dSeq (dFSet C "_points" (dVar 0) (dVar 1))
    (dSeq (dFSet C "_factor" (dVar 0) (dVar 2))
    (dSeq (dFSet C "_spread" (dVar 0) (dVar 3))
    (dSeq (dFSet C "_write" (dVar 0) (dVar 4))
    (dSeq (dFSet C "_read_number" (dVar 0) (dVar 5))
    (dSeq (dFSet C "_pending" (dVar 0) (dVar 6))
    (dFSet C "_hosts" (dVar 0) (dVar 7)))))))))))))))
abbrev N_build : List Str := ["_law_keg", "_law_size", "_law_most", "_law_each"]
def db_build (C : Addr) : DS :=
    (dRet (dOp rdAdd (dOp rdAdd (dLst (dCons (dVar 1) dNil)) (dCall 1 (sd_rule C) (dCons (dVar 0) dNil))) (dLst (dCons (dCall 4 (sd_band C) (dCons (dVar 0) (dCons (dVar 1) (dCons (dVar 2) (dCons (dVar 3) dNil))))) dNil))))
abbrev N_Ring_read : List Str := ["cls", "text", "rows", "words", "points", "factor", "write", "read", "hosts", "k", "row"]
def db_Ring_read (C : Addr) : DS :=
    (dSeq (dIfS (dNot (dTru (dIsi "str" (dVar 1)))) dNever dNext)
    (dSeq (dSet 2 (dM1 rdSplit (dVar 1) (dC (.str "\n"))))
    (dSeq (dSet 3 (dM1 rdSplit (dOp rdIx (dVar 2) (dC (.int 0))) (dC (.str " "))))
    (dSeq (dIfS (dOr (dTst (dOp rdNe (dOp rdIx (dVar 3) (dC (.int 0))) (dC (.str "ring")))) (dTst (dOp rdNe (dCB rdLen (dCons (dVar 3) dNil)) (dC (.int 7))))) dNever dNext)
    (dSeq (dAsg (dLc (dIter (dTup (dCons (dC (.int 1)) (dCons (dC (.int 2)) (dCons (dC (.int 4)) (dCons (dC (.int 5)) dNil)))))) (gdName 9) dYes (dCall 1 (sd_written_number C) (dCons (dOp rdIx (dVar 3) (dVar 9)) dNil)) [9]) (gdLst 4 (gdCons (gdName 4) (gdCons (gdName 5) (gdCons (gdName 6) (gdCons (gdName 7) gdNil))))))
    (dSeq (dSet 8 (dCB rdTuple (dCons (dLc (dIter (dSl rdSl (dVar 2) (dPart (dC (.int 1))) dNo)) (gdName 10) dYes (dCall 1 (sd_written_host C) (dCons (dVar 10) dNil)) [10]) dNil)))
    (dTryN (dRet (dMakeL 0 C 8 (sd_Ring___init__ C) (dCons (dVar 4) (dCons (dVar 5) (dCons (dOp rdIx (dVar 3) (dC (.int 3))) (dCons (dVar 6) (dCons (dVar 7) (dCons (dOp rdIx (dVar 3) (dC (.int 6))) (dCons (dVar 8) dNil))))))))))))))))
abbrev N_made : List Str := ["_law_keg", "_law_frame", "_law_way", "_law_size", "_law_wide", "_law_word", "_law_puts", "_law_gets", "_law_mode", "_law_crew"]
def db_made (C : Addr) : DS :=
    (dSeq (dSet 2 (dCall 2 (sd_dip C) (dCons (dVar 0) (dCons (dC (.int 3)) dNil))))
    (dSeq (dAsg (dVar 1) (gdLst 7 (gdCons (gdName 3) (gdCons (gdName 4) (gdCons (gdName 5) (gdCons (gdName 6) (gdCons (gdName 7) (gdCons (gdName 8) (gdCons (gdName 9) gdNil)))))))))
    (dSeq (dIfS (dTst (dOp rdEq (dVar 2) (dC (.int 0)))) (dRet (dMake C 8 (sd_Ring___init__ C) (dCons (dVar 3) (dCons (dVar 4) (dCons (dVar 5) (dCons (dVar 6) (dCons (dVar 7) (dCons (dVar 8) (dCons (dVar 9) dNil))))))))) dNext)
    (dSeq (dIfS (dTst (dOp rdEq (dVar 2) (dC (.int 1)))) (dRet (dMakeP C 8 ["hosts", "pending", "read", "write", "spread", "factor", "points"] [6, 5, 4, 3, 2, 1, 0] (sd_Ring___init__ C) (dCons (dVar 9) (dCons (dVar 8) (dCons (dVar 7) (dCons (dVar 6) (dCons (dVar 5) (dCons (dVar 4) (dCons (dVar 3) dNil))))))))) dNext)
    (dRet (dCMeth C 2 (sd_Ring_read C) (dCons (dCall 1 (sd_sheet C) (dCons (dVar 1) dNil)) dNil)))))))
end R
set_option maxRecDepth 100000
namespace R
open PySem PySem.Spec PyProof.Rows L2 DL
abbrev N_plain : List Str := ["_law_frame", "_law_size", "_law_wide", "_law_word", "_law_puts", "_law_gets", "_law_mode", "_law_crew"]
def db_plain (C : Addr) : DS :=
    (dSeq (dAsg (dVar 0) (gdLst 7 (gdCons (gdName 1) (gdCons (gdName 2) (gdCons (gdName 3) (gdCons (gdName 4) (gdCons (gdName 5) (gdCons (gdName 6) (gdCons (gdName 7) gdNil)))))))))
    (dRet (dMake C 8 (sd_Ring___init__ C) (dCons (dVar 1) (dCons (dVar 2) (dCons (dVar 3) (dCons (dVar 4) (dCons (dVar 5) (dCons (dVar 6) (dCons (dVar 7) dNil))))))))))
end R
set_option maxRecDepth 100000
set_option maxHeartbeats 1000000
namespace R
open PySem PySem.Spec PyProof.Rows L2 DL
local macro_rules | `(tactic| bv_omega) => `(tactic| first | assumption | exact mset_same)
local macro_rules | `(tactic| symm) => `(tactic| first
  | ((with_reducible show ∃ _, _ = _ ∧ _); refine ⟨_, rfl, ?_⟩)
  | ((with_reducible show _ = _ ∧ _); refine ⟨rfl, ?_⟩)
  | ((with_reducible show ∃ _ _, _ = _ ∧ _ = _ ∧ _); refine ⟨_, _, rfl, rfl, ?_⟩)
  | ((with_reducible show ∃ _ _, _ = _ ∧ _); refine ⟨_, _, rfl, ?_⟩)
  | ((with_reducible show ∃ _ _ _, _ = _ ∧ _); refine ⟨_, _, _, rfl, ?_⟩)
  | ((with_reducible show (_ ≤ _ ∧ _) ∧ _); refine ⟨by omega, ?_⟩)
  | with_reducible refine add_int ?_ | with_reducible refine sub_int ?_
  | with_reducible refine lt_int ?_ | with_reducible refine le_int ?_ | with_reducible refine gt_int ?_ | with_reducible refine ge_int ?_
  | with_reducible refine int_int ?_
  | with_reducible refine eq_int ?_ | with_reducible refine ne_int ?_
  | with_reducible refine len_tup ?_ | with_reducible refine len_lst ?_
  | ((with_reducible show rdIx (.cel _) (.int _) _ _); refine ix_cel (by bv_omega) (by rfl) ?_)
  | ((with_reducible show rdIx (.lst _) (.int _) _ _); refine ix_lst (by rfl) ?_)
  | ((with_reducible show rdIx (.tup _) (.int _) _ _); refine ix_tup (by rfl) ?_)
  | ((with_reducible show rdLen [.cel _] _ _); refine len_cel (by bv_omega) ?_)
  | ((with_reducible show rdMul (.int _) (.int _) _ _); first | refine mul_l (by decide) (by decide) ?_ | refine mul_r (by decide) (by decide) ?_ | refine mul_l (by omega) (by omega) ?_ | refine mul_r (by omega) (by omega) ?_)
  | ((with_reducible show rdDiv (.int _) (.int _) _ _); refine div_int (by first | decide | assumption | omega) (by first | decide | assumption | omega) ?_)
  | ((with_reducible show rdDivmod [.int _, .int _] _ _); refine dm_int (by first | decide | assumption | omega) (by first | decide | assumption | omega) ?_)
  | ((with_reducible show @ite _ (_ = true) _ _ _); first | refine ifYes (by first | with_reducible rfl | exact Bool.not_false | assumption) ?_ | refine ifNo (by first | with_reducible rfl | exact Bool.not_true | assumption) ?_)
  | ((with_reducible show ∃ _, _ ∧ _); refine ⟨_, celL_of (by bv_omega), ?_⟩)
  | ((with_reducible show ∃ _ _ _ _, _ ∧ _ ∧ _ ∧ _ ∧ _); refine ⟨_, _, _, _, rfl, rfl, by bv_omega, by rfl, ?_⟩)
  | ((with_reducible show (_ : Nat) ≤ sizeLine ∧ _); refine ⟨by rw [sizeLine_eq]; exact Nat.le_of_ble_eq_true rfl, ?_⟩))
local macro_rules | `(tactic| infer_instance) => `(tactic| ((repeat symm); try dsimp only))
local macro_rules | `(tactic| ac_rfl) => `(tactic| ((repeat (first | symm | ((with_reducible show rdMod (.int _) (.int _) _ _); refine mod_any (by first | decide | assumption | omega) ?_; intro _ _ _))); try dsimp only))
theorem kp_is_whole (C : Addr) : Keeps N_is_whole 1 (sd_is_whole C) (db_is_whole C) := by
  rintro ds M q ex hl ⟨i, rfl, h⟩
  show db_is_whole C _ [some (.int i)] M
  unfold db_is_whole
  ac_rfl
  exact h
theorem kp_is_from_to (C : Addr) : Keeps N_is_from_to 3 (sd_is_from_to C) (db_is_from_to C) := by
  rintro ds M q ex hl ⟨v, lo, hi, rfl, h⟩
  show db_is_from_to C _ [some (.int v), some (.int lo), some (.int hi)] M
  unfold db_is_from_to
  ac_rfl
  refine ⟨v, rfl, ?_⟩
  ac_rfl
  refine ifD (fun h1 => ?_) (fun h1 => ?_)
  · ac_rfl
    have e : decide (v ≤ hi) = decide (lo ≤ v ∧ v ≤ hi) := by simp [h1]
    rw [e]; exact h
  · have e : false = decide (lo ≤ v ∧ v ≤ hi) := by simp [h1]
    rw [e]; exact h
theorem kp_dip (C : Addr) : Keeps N_dip 2 (sd_dip C) (db_dip C) := by
  rintro ds M q ex hl ⟨k, n, g, rfl, n0, n1, ⟨a, b, c, hM, b0, b1, c0, c1⟩, hg, h⟩
  show db_dip C _ [some (.cel k), some (.int n), none, none] M
  unfold db_dip
  ac_rfl
  refine ifD (fun h1 => ?_) (fun h1 => ?_)
  · ac_rfl
    exact h _ _ (Int.emod_nonneg _ (by omega)) (Int.emod_lt_of_pos _ n0) (KeptB.refl M).self ⟨_, _, _, mset_same, b0, b1, c0, by omega⟩
  · ac_rfl
    exact h _ _ (by assumption) (by assumption) (((KeptB.refl M).self).self) ⟨_, _, _, mset_same, by assumption, by omega, by omega, by omega⟩
theorem kp_of (C : Addr) : Keeps N_of 2 (sd_of C) (db_of C) := by
  rintro ds M q ex hl ⟨k, d, xs, g, rfl, hd, hs, x0, x1, hK, hg, h⟩
  show db_of C _ [some (.cel k), some d] M
  unfold db_of
  ac_rfl
  refine len_seq hs ?_
  ac_rfl
  refine ⟨k, _, g, rfl, by omega, by omega, hK, hg, fun v M' v0 v1 hB hK' => ?_⟩
  obtain ⟨x, e, m⟩ := atI_in v0 v1
  exact ix_seq (seq_kept hB hd hs) e (h x M' m hB hK')
theorem kp_vast (C : Addr) : Keeps N_vast 2 (sd_vast C) (db_vast C) := by
  rintro ds M q ex hl ⟨k, n, g, rfl, n0, hK, hg, h⟩
  show db_vast C _ [some (.cel k), some (.int n), none, none] M
  unfold db_vast
  ac_rfl
  refine for_rng (n := 4) (fun i env M' => ∃ f t, env = [some (.cel k), some (.int n), some (.int f), t] ∧ KeptB k M M' ∧ Kg M' k (g + i)) ?_ ?_ _ _ ⟨0, none, rfl, .refl M, by simpa using hK⟩
  · rintro env M' ⟨f, t, rfl, hB, hK'⟩
    refine ⟨trivial, ?_⟩
    ac_rfl
    exact h _ _ (by assumption) (by assumption) hB hK'
  · rintro i env M' hi ⟨f, t, rfl, hB, hK'⟩ nx hn
    refine ⟨trivial, ?_⟩
    ac_rfl
    refine ⟨k, _, _, rfl, by decide, by decide, hK', by omega, fun v M2 v0 v1 hB2 hK2 => ?_⟩
    ac_rfl
    exact hn _ _ ⟨_, _, rfl, hB.trans hB2, by
      have e : g + ((i + 1 : Nat) : Int) = g + (i : Nat) + 1 := by omega
      rw [e]; exact hK2⟩
theorem all_in {p : Nat → Bool} {x : Str} {v n : Int} (h : x.cps.toList.all p = true) (hn : (x.cps.toList.length : Int) = n) (h0 : 0 ≤ v) (h1 : v < n) : ∃ c, atI x.cps.toList v = some c ∧ p c = true := by
  obtain ⟨c, e, m⟩ := atI_in h0 (by rw [hn]; exact h1)
  exact ⟨c, e, List.all_eq_true.mp h c m⟩
theorem name_lit {x : Str} (h : x ∈ (["ring", "host", "plan", "hosts", "racks", "with", "plain", "join", "settle"] : List Str)) : nameB x = true := by
  have : (["ring", "host", "plan", "hosts", "racks", "with", "plain", "join", "settle"] : List Str).all nameB = true := by decide +kernel
  exact List.all_eq_true.mp this x h
theorem kp_title (C : Addr) : Keeps N_title 1 (sd_title C) (db_title C) := by
  rintro ds M q ex hl ⟨k, g, rfl, hK, hg, h⟩
  show db_title C _ [some (.cel k), none, none, none] M
  unfold db_title
  ac_rfl
  refine ⟨k, _, g, rfl, by decide, by decide, hK, by omega, fun v M1 v0 v1 hB1 hK1 => ?_⟩
  ac_rfl
  refine ifD (fun h1 => ?_) (fun h1 => ?_)
  · ac_rfl
    refine ⟨k, _, _, _, rfl, (fun z => nomatch z), rfl, by decide, by decide, hK1, by omega, fun x M2 m hB2 hK2 => ?_⟩
    obtain ⟨y, my, rfl⟩ : ∃ y : Str, y ∈ (["ring", "host", "plan", "hosts", "racks", "with", "plain", "join", "settle"] : List Str) ∧ x = .str y := by
      have e : ([.str "ring", .str "host", .str "plan", .str "hosts", .str "racks", .str "with", .str "plain", .str "join", .str "settle"] : List D) = (["ring", "host", "plan", "hosts", "racks", "with", "plain", "join", "settle"] : List Str).map D.str := rfl
      rw [e] at m
      obtain ⟨y, h1, h2⟩ := List.mem_map.mp m
      exact ⟨y, h1, h2.symm⟩
    obtain ⟨a, b, c, h3, h4, h5, h6, h7⟩ := hK2
    exact h y _ (name_lit my) (hB1.trans hB2) ⟨a, b, c, h3, h4, h5, h6, by omega⟩
  · ac_rfl
    refine ⟨k, _, _, rfl, by decide, by decide, hK1, by omega, fun v2 M2 v20 v21 hB2 hK2 => ?_⟩
    obtain ⟨c, ec, hc⟩ := all_in (p := letB) (x := "abcdefghijklmnopqrstuvwxyz") (v := v2) (by decide +kernel) (by decide +kernel) v20 v21
    refine ix_str (by rw [sizeLine_eq]; decide) ec ?_
    ac_rfl
    refine ⟨k, _, _, _, rfl, (fun z => nomatch z), rfl, by decide, by decide, hK2, by omega, fun x M3 m hB3 hK3 => ?_⟩
    obtain ⟨j, hj, rfl⟩ : ∃ j : Nat, j ≤ 7 ∧ x = .int j := by
      simp only [List.mem_cons, List.not_mem_nil, or_false] at m
      rcases m with rfl | rfl | rfl | rfl | rfl | rfl
      · exact ⟨0, by decide, rfl⟩
      · exact ⟨0, by decide, rfl⟩
      · exact ⟨1, by decide, rfl⟩
      · exact ⟨2, by decide, rfl⟩
      · exact ⟨7, by decide, rfl⟩
      · exact ⟨3, by decide, rfl⟩
    ac_rfl
    refine for_rng (n := j) (fun i env M' => ∃ (f : Str) (r : List Nat) (t : Option D), env = [some (.cel k), some (.str "abcdefghijklmnopqrstuvwxyz"), some (.str f), t] ∧ f.cps.toList = c :: r ∧ r.length = i ∧ r.all signB = true ∧ KeptB k M M' ∧ Kg M' k (g + 3 + i)) ?_ ?_ _ _ ⟨_, [], none, rfl, rfl, rfl, rfl, (hB1.trans hB2).trans hB3, by
      obtain ⟨a, b, c, h3, h4, h5, h6, h7⟩ := hK3
      exact ⟨a, b, c, h3, h4, h5, h6, by omega⟩⟩
    · rintro env M' ⟨f, r, t, rfl, ef, hr, hs, hB, a, b, c, h3, h4, h5, h6, h7⟩
      refine ⟨trivial, ?_⟩
      ac_rfl
      refine h f _ ?_ hB ⟨a, b, c, h3, h4, h5, h6, by omega⟩
      unfold nameB
      rw [ef]
      show (letB _ && r.all signB && decide (r.length ≤ 7)) = true
      rw [hc, hs, decide_eq_true (by omega)]
      rfl
    · rintro i env M' hi ⟨f, r, t, rfl, ef, hr, hs, hB, hK'⟩ nx hn
      refine ⟨trivial, ?_⟩
      ac_rfl
      refine add_str (by rw [sizeLine_eq]; decide) ?_
      ac_rfl
      refine ⟨k, _, _, rfl, by decide, by decide, hK', by omega, fun v4 M4 v40 v41 hB4 hK4 => ?_⟩
      obtain ⟨c4, ec4, hc4⟩ := all_in (p := signB) (x := "abcdefghijklmnopqrstuvwxyz" ++ "0123456789") (v := v4) (by decide +kernel) (by decide +kernel) v40 v41
      refine ix_str (by rw [sizeLine_eq]; decide) ec4 ?_
      refine add_str (by rw [str_len, str_len, ef, sizeLine_eq]; simp; omega) ?_
      ac_rfl
      refine hn _ _ ⟨_, r ++ [c4], _, rfl, ?_, ?_, ?_, hB.trans hB4, ?_⟩
      · rw [str_app, ef]; rfl
      · rw [List.length_append, hr]; rfl
      · rw [List.all_append, hs]; simp [hc4]
      · obtain ⟨a, b, c, h3, h4, h5, h6, h7⟩ := hK4
        exact ⟨a, b, c, h3, h4, h5, h6, by omega⟩
theorem strOk_nat {x : Str} (h : x.cps.toList.all (fun c => decide (c < 1114112)) = true) : PyData.strOk x = true := by
  unfold PyData.strOk
  rw [← Array.all_toList]
  exact h
theorem name_ok {x : Str} (h : nameB x = true) : PyData.strOk x = true := by
  refine strOk_nat ?_
  unfold nameB at h
  cases e : x.cps.toList with
  | nil => rfl
  | cons c r =>
    rw [e] at h
    have h' : (letB c && r.all signB && decide (r.length ≤ 7)) = true := h
    rw [Bool.and_eq_true, Bool.and_eq_true] at h'
    obtain ⟨⟨h1, h2⟩, _⟩ := h'
    rw [List.all_eq_true] at h2 ⊢
    intro d hd
    rcases List.mem_cons.mp hd with rfl | hd
    · have := of_decide_eq_true h1
      exact decide_eq_true (by omega)
    · have := of_decide_eq_true (h2 d hd)
      exact decide_eq_true (by omega)
theorem name_len {x : Str} (h : nameB x = true) : 1 ≤ x.length ∧ x.length ≤ 8 := by
  unfold nameB at h
  rw [str_len]
  cases e : x.cps.toList with
  | nil => rw [e] at h; cases h
  | cons c r =>
    rw [e] at h
    have h' : (letB c && r.all signB && decide (r.length ≤ 7)) = true := h
    rw [Bool.and_eq_true] at h'
    have := of_decide_eq_true h'.2
    rw [List.length_cons]
    omega
/-- a name cut to seven signs, and one more -/
theorem name_cut {x y : Str} {c : Nat} (h : nameB x = true) (hy : y.cps.toList = x.cps.toList.take 7) (hc : signB c = true) : nameB (y ++ ⟨#[c]⟩) = true := by
  unfold nameB at h ⊢
  rw [str_app, hy]
  cases e : x.cps.toList with
  | nil => rw [e] at h; cases h
  | cons a r =>
    rw [e] at h
    have h' : (letB a && r.all signB && decide (r.length ≤ 7)) = true := h
    rw [Bool.and_eq_true, Bool.and_eq_true] at h'
    obtain ⟨⟨h1, h2⟩, _⟩ := h'
    show (letB a && (r.take 6 ++ [c]).all signB && decide ((r.take 6 ++ [c]).length ≤ 7)) = true
    rw [h1, List.all_append, List.length_append, List.length_take]
    have h3 : (r.take 6).all signB = true := by
      rw [List.all_eq_true] at h2 ⊢
      exact fun d hd => h2 d (List.mem_of_mem_take hd)
    rw [h3, decide_eq_true (by simp; omega)]
    simp [hc]
abbrev spare : List Str := ["a", "b", "a1", "a2", "zz9", "q", "r1", "x", "y", "z", "h0", "h1"]
theorem spare_nd : spare.Nodup := by decide +kernel
theorem spare_ok : ∀ x ∈ spare, nameB x = true := List.all_eq_true.mp (by decide +kernel : spare.all nameB = true)
theorem kg_le {M : Mem} {k : Addr} {g g' : Int} (h : Kg M k g) (e : g ≤ g') : Kg M k g' := by
  obtain ⟨a, b, c, h3, h4, h5, h6, h7⟩ := h
  exact ⟨a, b, c, h3, h4, h5, h6, by omega⟩
theorem kg_kept {M M' : Mem} {k : Addr} {g : Int} (h : Kg M k g) (e : Kept M M') : Kg M' k g := by
  obtain ⟨a, b, c, h3, h⟩ := h
  exact ⟨a, b, c, e k _ h3, h⟩
theorem kg_ne {M : Mem} {k c : Addr} {g : Int} (h : Kg M k g) (e : M c = none) : c ≠ k := by
  obtain ⟨a, b, c', h3, _⟩ := h
  rintro rfl
  rw [e] at h3; cases h3
theorem kp_titles (C : Addr) : Keeps N_titles 2 (sd_titles C) (db_titles C) := by
  rintro ds M q ex hl ⟨k, n, g, rfl, n1, hK, hg, h⟩
  show db_titles C _ [some (.cel k), some (.int n), none, none, none, none, none] M
  unfold db_titles
  ac_rfl
  intro c hc
  have hck := kg_ne hK hc
  ac_rfl
  refine for_rng (n := ((n : Nat) : Int).toNat) (fun i env M' => ∃ (xs : List Str) (t u v : Option D), env = [some (.cel k), some (.int n), some (strsL spare), some (.cel c), t, u, v] ∧ M' c = some (.ls (xs.map D.str)) ∧ xs.length = i ∧ xs.Nodup ∧ (∀ x ∈ xs, nameB x = true) ∧ KeptB k M M' ∧ Kg M' k (g + 30 * i)) ?_ ?_ _ _
    ⟨[], none, none, none, rfl, mset_same, rfl, .nil, fun x hx => by simp at hx, (Kept.new hc).b, by
      obtain ⟨a, b, d, h3, h4⟩ := hK
      exact ⟨a, b, d, by rw [mset_ne (Ne.symm hck)]; exact h3, by simpa using h4⟩⟩
  · rintro env M' ⟨xs, t, u, v, rfl, hM, hx, hnd, hok, hB, hK'⟩
    refine ⟨trivial, ?_⟩
    ac_rfl
    have hxn : xs.length = n := by rw [hx]; omega
    refine ⟨c, _, rfl, hM, ?_⟩
    refine h xs _ hxn hnd hok (hB.del hc) ?_
    obtain ⟨a, b, d, h3, h4, h5, h6, h7⟩ := hK'
    exact ⟨a, b, d, by unfold mdel; rw [if_neg (Ne.symm hck)]; exact h3, h4, h5, h6, by omega⟩
  · rintro i env M' hi ⟨xs, t, u, v, rfl, hM, hx, hnd, hok, hB, hK'⟩ nx hn
    refine ⟨trivial, ?_⟩
    ac_rfl
    refine ⟨k, _, rfl, hK', by omega, fun tag M1 htag hB1 hK1 => ?_⟩
    have hM1 : M1 c = some (.ls (xs.map D.str)) := hB1 c _ hM hck
    -- behind the choice of a tag
    have tail : ∀ (M2 : Mem) (tg : Str) (w : Option D), nameB tg = true → M2 c = some (.ls (xs.map D.str)) → KeptB k M M2 → Kg M2 k (g + 30 * i + 21) →
        dExp (dApp (dVar 3) (dCons (dOp rdIx (dLc (dIter (dOp rdAdd (dLst (dCons (dVar 5) dNil)) (dVar 2))) (gdName 6) (dTst (dOp (rdIn true) (dVar 6) (dVar 3))) (dVar 6) [6]) (dC (.int 0))) dNil)) { nx := nx, ct := nx, bk := fun env' M' => dRetF (dVar 3) { nx := fun x M' => q .non M', rt := q, ex := fun _ => ex } env' M', rt := q, ex := fun _ => ex } [some (.cel k), some (.int n), some (strsL spare), some (.cel c), w, some (.str tg), v] M2 := by
      intro M2 tg w htg hM2 hB2 hK2
      ac_rfl
      refine ⟨c, _, rfl, hM2, ?_⟩
      ac_rfl
      refine add_lst rfl rfl (by rw [sizeLine_eq]; exact Nat.le_of_ble_eq_true rfl) ?_
      ac_rfl
      intro c2 hc2
      have hcc : c2 ≠ c := fun e => by rw [e, hM2] at hc2; cases hc2
      have hl2 : spare.length = 12 := rfl
      refine lc_pure (fun d => match d with | .str x => !decide (x ∈ xs) | _ => false) (fun d => d) hc2 (by rw [sizeLine_eq]; exact Nat.le_of_ble_eq_true rfl) (fun acc => rfl) (fun x hxm acc hz nx2 hy hno => ?_) ?_
      · obtain ⟨y, my, rfl⟩ : ∃ y : Str, y ∈ tg :: spare ∧ x = .str y := by
          have e : ([.str tg] : List D) ++ spare.map D.str = (tg :: spare).map D.str := rfl
          rw [e] at hxm
          obtain ⟨y, h1, h2⟩ := List.mem_map.mp hxm
          exact ⟨y, h1, h2.symm⟩
        ac_rfl
        refine ni_str (xs := xs) (celL_of (by rw [mset_ne (Ne.symm hcc)]; exact hM2)) ?_
        ac_rfl
        refine ifB (fun hb => ?_) (fun hb => ?_)
        · ac_rfl
          exact acc_put hz (hy hb)
        · exact hno hb
      · have e : ([.str tg] : List D) ++ spare.map D.str = (tg :: spare).map D.str := rfl
        rw [e, List.filter_map]
        have hne : (tg :: spare).filter (fun x => !decide (x ∈ xs)) ≠ [] := fun z => by
          have hall : ∀ x ∈ spare, x ∈ xs := fun x hx => by
            have := List.filter_eq_nil_iff.mp z x (List.mem_cons_of_mem _ hx)
            simpa using this
          have := nodup_len spare_nd hall
          omega
        obtain ⟨y, r, ey⟩ : ∃ y r, (tg :: spare).filter (fun x => !decide (x ∈ xs)) = y :: r := by
          cases hh : (tg :: spare).filter (fun x => !decide (x ∈ xs)) with
          | nil => exact absurd hh hne
          | cons y r => exact ⟨y, r, rfl⟩
        have my : y ∈ (tg :: spare).filter (fun x => !decide (x ∈ xs)) := by rw [ey]; exact List.mem_cons_self
        obtain ⟨m1, m2⟩ := List.mem_filter.mp my
        have m3 : y ∉ xs := by simpa using m2
        have hyn : nameB y = true := by
          rcases List.mem_cons.mp m1 with rfl | m
          · exact htg
          · exact spare_ok y m
        have ef : ((fun d => match d with | .str x => !decide (x ∈ xs) | _ => false) ∘ D.str) = fun x => !decide (x ∈ xs) := rfl
        rw [ef, ey]
        refine ix_lst (d := .str y) atI_zero ?_
        ac_rfl
        refine ⟨_, _, rfl, hM2, by rw [List.length_map, sizeLine_eq]; omega, ?_⟩
        refine hn _ _ ⟨xs ++ [y], _, _, _, rfl, ?_, ?_, ?_, ?_, ?_, ?_⟩
        · rw [mset_same, List.map_append]; rfl
        · rw [List.length_append, hx]; rfl
        · rw [List.nodup_append]
          refine ⟨hnd, by simp, fun a ha b hb => ?_⟩
          rw [List.mem_singleton.mp hb]
          rintro rfl
          exact m3 ha
        · intro x hx
          rcases List.mem_append.mp hx with hx | hx
          · exact hok x hx
          · rw [List.mem_singleton.mp hx]; exact hyn
        · exact hB2.put hc
        · obtain ⟨a, b, d, h3, h4, h5, h6, h7⟩ := hK2
          exact ⟨a, b, d, by rw [mset_ne (Ne.symm hck)]; exact h3, h4, h5, h6, by omega⟩
    ac_rfl
    refine ne_nil (p := xs.map PyData.str) ?_ (shStrs fun x hx => name_ok (hok x hx)).1 ?_
    · show (match celL M1 c with | some xs => (toPys xs).map PyData.list | none => none) = _
      rw [celL_of hM1]
      show (toPys (xs.map D.str)).map PyData.list = _
      rw [toPys_str]; rfl
    ac_rfl
    have hB01 : KeptB k M M1 := hB.trans hB1
    have hKn : ∀ M2, Kg M2 k (g + 30 * i + 20 + 1) → Kg M2 k (g + 30 * i + 21) := fun M2 h => kg_le h (by omega)
    refine ifB (fun hb => ?_) (fun hb => ?_)
    · ac_rfl
      refine ⟨k, _, _, rfl, by decide, by decide, hK1, by omega, fun v0 M2 v00 v01 hB2 hK2 => ?_⟩
      ac_rfl
      have hM2 : M2 c = some (.ls (xs.map D.str)) := hB2 c _ hM1 hck
      refine ifD (fun h0 => ?_) (fun h0 => ?_)
      · ac_rfl
        cases xs with
        | nil => simp at hb
        | cons x0 xs0 =>
          refine ix_cel hM2 atI_zero ?_
          ac_rfl
          have hx0 := hok x0 List.mem_cons_self
          refine sl_str (n := 7) (by have := name_len hx0; rw [sizeLine_eq]; omega) fun y hy => ?_
          ac_rfl
          obtain ⟨c4, ec4, hc4⟩ := all_in (p := signB) (x := "0123456789ab") (v := (i : Nat)) (by decide +kernel) (n := 12) (by decide +kernel) (by omega) (by omega)
          have ei : (0 : Int) + (i : Nat) = (i : Nat) := by omega
          refine ix_str (by rw [sizeLine_eq]; decide) (by rw [ei]; exact ec4) ?_
          have hyl : y.length ≤ 7 := by rw [str_len, hy, List.length_take]; omega
          refine add_str (by rw [str_len ⟨#[c4]⟩, sizeLine_eq]; simp; omega) ?_
          exact tail M2 _ _ (name_cut hx0 hy hc4) hM2 (hB01.trans hB2) (hKn M2 hK2)
      · exact tail M2 tag _ htag hM2 (hB01.trans hB2) (hKn M2 hK2)
    · exact tail M1 tag _ htag hM1 hB01 (kg_le hK1 (by omega))
theorem kp_yards (C : Addr) : Keeps N_yards 2 (sd_yards C) (db_yards C) := by
  rintro ds M q ex hl ⟨k, n, g, rfl, n1, hK, hg, h⟩
  show db_yards C _ [some (.cel k), some (.int n), none, none] M
  unfold db_yards
  ac_rfl
  refine ⟨k, _, _, rfl, by decide, by decide, hK, by omega, fun v M1 v0 v1 hB1 hK1 => ?_⟩
  ac_rfl
  obtain ⟨j, rfl⟩ := Int.eq_ofNat_of_zero_le v0
  refine ⟨k, j + 1, _, by congr 3; omega, by omega, hK1, by omega, fun ps M2 hl2 hnd hok hB2 hK2 => ?_⟩
  ac_rfl
  intro c hc
  have hck := kg_ne hK2 hc
  refine lc_lst (fun i M' => ∃ xs : List Str, M' c = some (.ls (xs.map D.str)) ∧ xs.length = i ∧ (∀ x ∈ xs, nameB x = true) ∧ KeptB k M2 M' ∧ Kg M' k (g + 401 + i)) ?_ ?_ _ ⟨[], mset_same, rfl, fun x hx => by simp at hx, (Kept.new hc).b, ?_⟩
  · rintro M' ⟨xs, hM, hx, hok2, hB, a, b, d, h3, h4, h5, h6, h7⟩
    have hn : (rngD 0 ((n : Nat) : Int).toNat).length = n := by unfold rngD; rw [List.length_map, List.length_range]; omega
    refine ⟨trivial, _, hM, ?_⟩
    refine h xs _ (by rw [hx]; exact hn) hok2 ?_ ⟨a, b, d, by unfold mdel; rw [if_neg (Ne.symm hck)]; exact h3, h4, h5, h6, by rw [hn] at h7; omega⟩
    intro c' x e ne
    have e1 := hB2 c' x (hB1 c' x e ne) ne
    have hne : c' ≠ c := fun z => by rw [z, hc] at e1; cases e1
    unfold mdel
    rw [if_neg hne]
    exact hB c' x e1 ne
  · rintro i x M' hxi ⟨xs, hM, hx, hok2, hB, hK'⟩ nx hn
    refine ⟨trivial, ?_⟩
    ac_rfl
    refine ⟨k, _, ps.map D.str, _, rfl, (fun z => nomatch z), rfl, by rw [List.length_map]; omega, by rw [List.length_map]; omega, hK', ?_, fun y M3 hy hB3 hK3 => ?_⟩
    · have hi := (List.getElem?_eq_some_iff.mp hxi).1
      unfold rngD at hi; rw [List.length_map, List.length_range] at hi
      omega
    · obtain ⟨z, mz, rfl⟩ := List.mem_map.mp hy
      have hM3 := hB3 c _ hM hck
      refine ⟨_, hM3, by rw [List.length_map, hx, sizeLine_eq]; have hi := (List.getElem?_eq_some_iff.mp hxi).1; unfold rngD at hi; rw [List.length_map, List.length_range] at hi; omega, hn _ ⟨xs ++ [z], ?_, ?_, ?_, ?_, ?_⟩⟩
      · rw [mset_same, List.map_append]; rfl
      · rw [List.length_append, hx]; rfl
      · intro x hx
        rcases List.mem_append.mp hx with hx | hx
        · exact hok2 x hx
        · rw [List.mem_singleton.mp hx]; exact hok z mz
      · exact (hB.trans hB3).put hc
      · obtain ⟨a, b, d, h3, h4, h5, h6, h7⟩ := hK3
        exact ⟨a, b, d, by rw [mset_ne (Ne.symm hck)]; exact h3, h4, h5, h6, by omega⟩
  · obtain ⟨a, b, d, h3, h4, h5, h6, h7⟩ := hK2
    exact ⟨a, b, d, by rw [mset_ne (Ne.symm hck)]; exact h3, h4, h5, h6, by omega⟩
/-- among so many steps in a row one is not taken -/
theorem some_free {size wish : Int} {ts : List Int} (h : (ts.length : Int) < size) : ∃ s : Nat, s ≤ ts.length ∧ (wish + s) % size ∉ ts := by
  have hp : 0 < size := by omega
  by_cases hh : ∃ s : Nat, s ≤ ts.length ∧ (wish + s) % size ∉ ts
  · exact hh
  · exfalso
    have hall : ∀ x ∈ (List.range (ts.length + 1)).map (fun s : Nat => (wish + s) % size), x ∈ ts := fun x hx => by
      obtain ⟨s, hs, rfl⟩ := List.mem_map.mp hx
      rw [List.mem_range] at hs
      by_cases m : (wish + s) % size ∈ ts
      · exact m
      · exact absurd ⟨s, by omega, m⟩ hh
    have hnd : ((List.range (ts.length + 1)).map (fun s : Nat => (wish + s) % size)).Nodup := by
      unfold List.Nodup
      rw [List.pairwise_map]
      have hr : (List.range (ts.length + 1)).Pairwise (fun a b => a < b ∧ b < ts.length + 1) := by
        have h1 : (List.range (ts.length + 1)).Pairwise (· < ·) := List.pairwise_lt_range
        exact List.Pairwise.imp_of_mem (fun {a b} ha hb hab => ⟨hab, List.mem_range.mp hb⟩) h1
      refine hr.imp fun {a b} hab e => ?_
      have e1 : (wish + b - (wish + a)) % size = 0 := by
        rw [Int.sub_emod, ← e, Int.sub_self, Int.zero_emod]
      have e2 : wish + (b : Int) - (wish + a) = ((b - a : Nat) : Int) := by omega
      rw [e2, Int.emod_eq_of_lt (by omega) (by omega)] at e1
      omega
    have := nodup_len hnd hall
    rw [List.length_map, List.length_range] at this
    omega
theorem kp_free (C : Addr) : Keeps N_free 3 (sd_free C) (db_free C) := by
  rintro ds M q ex hl ⟨size, wish, d, ts, rfl, hs, hlt, hz, h⟩
  show db_free C _ [some (.int size), some d, some (.int wish), none] M
  unfold db_free
  ac_rfl
  refine len_seq hs ?_
  rw [List.length_map]
  ac_rfl
  refine for_rng (n := ((ts.length : Int) + 1).toNat) (fun i env M' => M' = M ∧ (∃ t, env = [some (.int size), some d, some (.int wish), t]) ∧ ∀ s : Nat, s < i → (wish + s) % size ∈ ts) ?_ ?_ _ _ ⟨rfl, ⟨none, rfl⟩, fun s hs => absurd hs (Nat.not_lt_zero _)⟩
  · rintro env M' ⟨rfl, _, hall⟩
    obtain ⟨s, h1, h2⟩ := some_free (wish := wish) hlt
    exact absurd (hall s (by omega)) h2
  · rintro i env M' hi ⟨rfl, ⟨t, rfl⟩, hall⟩ nx hn
    refine ⟨trivial, ?_⟩
    infer_instance
    refine mod_int (by omega) ?_
    infer_instance
    refine ni_int hs ?_
    infer_instance
    have e0 : wish + (0 + (i : Int)) = wish + i := by omega
    rw [e0]
    refine ifB (fun hb => ?_) (fun hb => ?_)
    · infer_instance
      refine mod_int (by omega) ?_
      rw [e0]
      exact h _ (Int.emod_nonneg _ (by omega)) (Int.emod_lt_of_pos _ (by omega)) (by simpa using hb)
    · refine hn _ _ ⟨rfl, ⟨_, rfl⟩, fun s hs2 => ?_⟩
      by_cases e : s = i
      · subst e; simpa using hb
      · exact hall s (by omega)
theorem kp_place (C : Addr) : Keeps N_place 3 (sd_place C) (db_place C) := by
  rintro ds M q ex hl ⟨k, size, g, d, ts, rfl, hd, hs, hz, h0, hK, hg, h⟩
  show db_place C _ [some (.cel k), some (.int size), some d, none] M
  unfold db_place
  ac_rfl
  refine ⟨k, _, _, rfl, by decide, by decide, hK, by omega, fun v M1 v0 v1 hB1 hK1 => ?_⟩
  ac_rfl
  refine ifD (fun h1 => ?_) (fun h1 => ?_)
  · ac_rfl
    refine ⟨k, _, _, rfl, by decide, by decide, hK1, by omega, fun v2 M2 v20 v21 hB2 hK2 => ?_⟩
    have e : v2 = 0 ∨ v2 = 1 := by omega
    rcases e with rfl | rfl
    · refine ix_lst (by rfl) ?_
      exact h 0 M2 (Int.le_refl _) h0 (hB1.trans hB2) (kg_le hK2 (by omega))
    · refine ix_lst (by rfl) ?_
      exact h (size - 1) M2 (by omega) (by omega) (hB1.trans hB2) (kg_le hK2 (by omega))
  · ac_rfl
    have hs1 := lsq_kept hB1 hd hs
    have last : ∀ (w : Option D), dRet (dIf (dTst (dOp rdLt (dVar 1) (dC (.int 1000)))) (dCall 2 (sd_dip C) (dCons (dVar 0) (dCons (dVar 1) dNil))) (dCall 2 (sd_vast C) (dCons (dVar 0) (dCons (dVar 1) dNil)))) { nx := fun x M' => q .non M', rt := q, ex := fun _ => ex } [some (.cel k), some (.int size), some d, w] M1 := by
      intro w
      ac_rfl
      refine ifD (fun h3 => ?_) (fun h3 => ?_)
      · ac_rfl
        exact ⟨k, _, _, rfl, h0, by omega, hK1, by omega, fun v2 M2 v20 v21 hB2 hK2 => h v2 M2 v20 v21 (hB1.trans hB2) (kg_le hK2 (by omega))⟩
      · ac_rfl
        exact ⟨k, _, _, rfl, h0, hK1, by omega, fun v2 M2 v20 v21 hB2 hK2 => h v2 M2 v20 v21 (hB1.trans hB2) (kg_le hK2 (by omega))⟩
    refine ifD (fun h2 => ?_) (fun h2 => ?_)
    · ac_rfl
      refine ne_nil (p := ts.map PyData.int) ?_ (shInts ts) ?_
      · cases d with
        | cel c =>
          show (match celL M1 c with | some xs => (toPys xs).map PyData.list | none => none) = _
          rw [show celL M1 c = some (ts.map D.int) from hs1]
          show (toPys (ts.map D.int)).map PyData.list = _
          rw [toPys_int]; rfl
        | lst xs =>
          cases hs1
          show (toPys (ts.map D.int)).map PyData.list = _
          rw [toPys_int]; rfl
        | lsf xs =>
          cases hs1
          show (toPys (ts.map D.int)).map PyData.list = _
          rw [toPys_int]; rfl
        | _ => cases hs1
      ac_rfl
      refine ifB (fun hb => ?_) (fun hb => ?_)
      · ac_rfl
        refine ⟨k, d, ts.map D.int, _, rfl, hd, lsq_seq hs1, ?_, by rw [List.length_map]; omega, hK1, by omega, fun x M2 hx hB2 hK2 => ?_⟩
        · rw [List.length_map]
          cases ts with
          | nil => simp at hb
          | cons a b => simp
        · obtain ⟨z, mz, rfl⟩ := List.mem_map.mp hx
          ac_rfl
          refine ⟨k, _, _, rfl, by decide, by decide, hK2, by omega, fun v3 M3 v30 v31 hB3 hK3 => ?_⟩
          ac_rfl
          exact h _ M3 (by assumption) (by assumption) ((hB1.trans hB2).trans hB3) (kg_le hK3 (by omega))
      · exact last _
    · exact last _
theorem kp_rule (C : Addr) : Keeps N_rule 1 (sd_rule C) (db_rule C) := by
  rintro ds M q ex hl ⟨k, g, rfl, hK, hg, h⟩
  show db_rule C _ [some (.cel k), none, none] M
  unfold db_rule
  ac_rfl
  refine ⟨k, _, _, rfl, by decide, by decide, hK, by omega, fun v M1 v0 v1 hB1 hK1 => ?_⟩
  ac_rfl
  refine ⟨k, _, _, _, rfl, (fun z => nomatch z), rfl, by decide, by decide, hK1, by omega, fun x M2 mx hB2 hK2 => ?_⟩
  ac_rfl
  refine ⟨k, _, _, rfl, by omega, by omega, hK2, by omega, fun v2 M3 v20 v21 hB3 hK3 => ?_⟩
  ac_rfl
  refine ⟨k, _, _, rfl, by omega, by omega, hK3, by omega, fun v3 M4 v30 v31 hB4 hK4 => ?_⟩
  ac_rfl
  refine ⟨k, _, _, _, rfl, (fun z => nomatch z), rfl, by decide, by decide, hK4, by omega, fun y M5 my hB5 hK5 => ?_⟩
  ac_rfl
  refine add_lst rfl rfl (by rw [sizeLine_eq]; exact Nat.le_of_ble_eq_true rfl) ?_
  obtain ⟨sx, hsx, rfl⟩ : ∃ s : Str, (s = "hosts" ∨ s = "racks") ∧ x = .str s := by
    simp only [List.mem_cons, List.not_mem_nil, or_false] at mx
    rcases mx with rfl | rfl
    · exact ⟨_, .inl rfl, rfl⟩
    · exact ⟨_, .inr rfl, rfl⟩
  obtain ⟨sy, hsy, rfl⟩ : ∃ s : Str, (s = "plain" ∨ s = "with") ∧ y = .str s := by
    simp only [List.mem_cons, List.not_mem_nil, or_false] at my
    rcases my with rfl | rfl
    · exact ⟨_, .inl rfl, rfl⟩
    · exact ⟨_, .inr rfl, rfl⟩
  exact h ⟨1 + v, sx, 1 + v2, 1 + v3, sy⟩ M5 ⟨⟨by show 1 ≤ 1 + v; omega, by show 1 + v ≤ 5; omega⟩, hsx, ⟨by show 1 ≤ 1 + v2; omega, by show 1 + v2 ≤ 1 + v; omega⟩, ⟨by show 1 ≤ 1 + v3; omega, by show 1 + v3 ≤ 1 + v; omega⟩, hsy⟩ ((((hB1.trans hB2).trans hB3).trans hB4).trans hB5) (kg_le hK5 (by omega))
theorem kp_build (C : Addr) : Keeps N_build 4 (sd_build C) (db_build C) := by
  rintro ds M q ex hl ⟨k, size, g, most, each, rfl, h0, m1, m2, e1, e2, hK, hg, h⟩
  show db_build C _ [some (.cel k), some (.int size), some (.int most), some (.int each)] M
  unfold db_build
  ac_rfl
  refine ⟨k, _, rfl, hK, by omega, fun r M1 hr hB1 hK1 => ?_⟩
  refine add_lst rfl rfl (by rw [sizeLine_eq]; exact Nat.le_of_ble_eq_true rfl) ?_
  ac_rfl
  refine ⟨k, size, _, most, each, rfl, h0, m1, m2, e1, e2, hK1, by omega, fun hs M2 hc hf hB2 hK2 => ?_⟩
  ac_rfl
  refine add_lst rfl rfl (by rw [sizeLine_eq]; exact Nat.le_of_ble_eq_true rfl) ?_
  exact h r hs M2 hr hc hf (hB1.trans hB2) (kg_le hK2 (by omega))
theorem kp_plain (C : Addr) : Keeps N_plain 1 (sd_plain C) (db_plain C) := by
  rintro ds M q ex hl ⟨size, r, hs, rfl, s0, s1, hr, hc, h⟩
  show db_plain C _ [some (.lst (frameL size r hs)), none, none, none, none, none, none, none] M
  unfold db_plain
  ac_rfl
  intro c hcn
  refine ⟨c, size, r, hs, rfl, mset_same, s0, s1, hr, hc, rfl, fieldsD size r hs, ?_, ?_⟩
  · rw [mset_mset, mset_same]
  · rw [mset_mset]
    exact h _ ((Kept.new hcn).del hcn)
theorem kp_filled (C : Addr) : Keeps N_filled 2 (sd_filled C) (db_filled C) := by
  rintro ds M q ex hl ⟨ns, t, rfl, ht, hn, hb, h⟩
  show db_filled C _ [some (.lsf (ns.map D.int)), some (.int t), none, none, none] M
  unfold db_filled
  ac_rfl
  refine len_seq rfl ?_
  ac_rfl
  have rest : ∀ own : Int, Builtin.Int.intBits own ≤ 1048576 → (dSeq (dSet 3 (dOp rdAdd (dC (.int 90007)) (dOp rdMul (dC (.int 4409)) (dVar 1))))
    (dSeq (dFor (dIter (dSl rdSl (dVar 0) dNo (dPart (dC (.int 6))))) (gdName 4) (dSet 3 (dOp rdMod (dCB rdInt (dCons (dOp rdAdd (dOp rdAdd (dOp rdMul (dVar 3) (dC (.int 33347))) (dOp rdMul (dVar 4) (dC (.int 11)))) (dC (.int 29))) dNil)) (dC (.int 2147483543)))))
    (dRet (dLstC (dCons (dIf (dOr (dTst (dOp rdLt (dVar 2) (dC (.int 0)))) (dTst (dOp rdGe (dVar 2) (dOp rdPow (dC (.int 10)) (dC (.int 18)))))) (dCB rdAbs (dCons (dVar 2) dNil)) (dC (.int 0))) (dCons (dOp rdMod (dCB rdInt (dCons (dOp rdAdd (dOp rdAdd (dOp rdMul (dVar 3) (dC (.int 71))) (dOp rdMul (dVar 2) (dVar 2))) (dOp rdMul (dC (.int 13)) (dVar 1))) dNil)) (dC (.int 2147483543))) (dCons (dC (.int 0)) dNil)))))))
      { nx := fun _ M' => q .non M', rt := q, ex := fun _ => ex } [some (.lsf (ns.map D.int)), some (.int t), some (.int own), none, none] M := by
    intro own hown
    ac_rfl
    refine sl_lsf (n := 6) ?_
    ac_rfl
    refine for_lst (fun i env M' => M' = M ∧ ∃ (m : Int) (w : Option D), env = [some (.lsf (ns.map D.int)), some (.int t), some (.int own), some (.int m), w]) ?_ ?_ _ _ ⟨rfl, _, _, rfl⟩
    · rintro env M' ⟨rfl, m, w, rfl⟩
      refine ⟨rfl, ?_⟩
      have fin : ∀ a : Int, dCons (dOp rdMod (dCB rdInt (dCons (dOp rdAdd (dOp rdAdd (dOp rdMul (dVar 3) (dC (.int 71))) (dOp rdMul (dVar 2) (dVar 2))) (dOp rdMul (dC (.int 13)) (dVar 1))) dNil)) (dC (.int 2147483543))) (dCons (dC (.int 0)) dNil) [some (.lsf (ns.map D.int)), some (.int t), some (.int own), some (.int m), w] M' (fun xs M2 => (D.int a :: xs).length ≤ sizeLine ∧ ∀ c, M2 c = none → q (.cel c) (mset M2 c (.ls (D.int a :: xs)))) ex := by
        intro a
        ac_rfl
        refine mul_int (IntMulOk.of_le hown hown (by decide)) ?_
        ac_rfl
        intro c hc
        exact h c _ hc (Kept.new hc) ⟨_, _, _, mset_same, by assumption, by omega, by decide, by decide⟩
      ac_rfl
      refine ifD (fun h1 => ?_) (fun h1 => ?_)
      · ac_rfl
        exact fin _
      · ac_rfl
        refine pow_int (by refine ⟨?_, ?_, ?_⟩ <;> decide) ?_
        ac_rfl
        refine ifD (fun h2 => ?_) (fun h2 => ?_)
        · ac_rfl
          exact fin _
        · exact fin _
    · rintro i x env M' hx ⟨rfl, m, w, rfl⟩ nx hnx
      refine ⟨rfl, ?_⟩
      obtain ⟨z, _, rfl⟩ : ∃ z : Int, True ∧ x = .int z := by
        have := List.mem_of_mem_take (List.mem_of_getElem? hx)
        obtain ⟨z, _, e⟩ := List.mem_map.mp this
        exact ⟨z, trivial, e.symm⟩
      ac_rfl
      exact hnx _ _ ⟨rfl, _, _, rfl⟩
  refine ifD (fun h1 => ?_) (fun h1 => ?_)
  · ac_rfl
    rw [List.length_map] at h1
    have hlt : t < ns.length := by omega
    refine ix_seq (xs := ns.map D.int) rfl (atI_nat (n := t) (by rw [List.getElem?_map, List.getElem?_eq_getElem hlt]; rfl)) ?_
    exact rest _ (hb _ (List.getElem_mem hlt))
  · exact rest 0 (by decide)
theorem kp_is_word_of (C : Addr) : Keeps N_is_word_of 2 (sd_is_word_of C) (db_is_word_of C) := by
  rintro ds M q ex hl (⟨x, ws, rfl, h⟩ | ⟨d, ws, t, rfl, ht, hn, h⟩)
  · show db_is_word_of C _ [some (.str x), some (strsT ws)] M
    unfold db_is_word_of
    ac_rfl
    exact in_str (xs := ws) rfl h
  · show db_is_word_of C _ [some d, some (strsT ws)] M
    unfold db_is_word_of
    refine ⟨d, rfl, t, false, ht, ?_, ?_⟩
    · have := tyD_in ht
      simp only [List.mem_cons, List.not_mem_nil, or_false] at this
      rcases this with rfl | rfl | rfl | rfl | rfl | rfl | rfl <;> first | rfl | exact absurd rfl hn
    · refine ⟨false, rfl, ?_⟩
      rw [if_neg Bool.false_ne_true]
      exact h
theorem let_in {c : Nat} (h : letB c = true) : c ∈ ("abcdefghijklmnopqrstuvwxyz" : Str).cps.toList := by
  have e : ("abcdefghijklmnopqrstuvwxyz" : Str).cps.toList = (List.range 26).map (97 + ·) := by decide +kernel
  rw [e]
  have := of_decide_eq_true h
  exact List.mem_map.mpr ⟨c - 97, List.mem_range.mpr (by omega), by omega⟩
theorem sign_in {c : Nat} (h : signB c = true) : c ∈ (("abcdefghijklmnopqrstuvwxyz" : Str) ++ ("0123456789" : Str)).cps.toList := by
  have e : (("abcdefghijklmnopqrstuvwxyz" : Str) ++ ("0123456789" : Str)).cps.toList = (List.range 26).map (97 + ·) ++ (List.range 10).map (48 + ·) := by decide +kernel
  rw [e]
  rcases of_decide_eq_true h with h | h
  · exact List.mem_append.mpr (.inl (List.mem_map.mpr ⟨c - 97, List.mem_range.mpr (by omega), by omega⟩))
  · exact List.mem_append.mpr (.inr (List.mem_map.mpr ⟨c - 48, List.mem_range.mpr (by omega), by omega⟩))
theorem kp_is_name (C : Addr) : Keeps N_is_name 1 (sd_is_name C) (db_is_name C) := by
  rintro ds M q ex hl ⟨x, rfl, hx, h⟩
  show db_is_name C _ [some (.str x), none] M
  unfold db_is_name
  have hlen := name_len hx
  have hsz : x.length ≤ sizeLine := by rw [sizeLine_eq]; omega
  ac_rfl
  refine len_str hsz ?_
  ac_rfl
  refine ifD (fun h1 => ?_) (fun h1 => absurd hlen.1 (by omega))
  ac_rfl
  have e8 : decide ((x.length : Int) ≤ 8) = true := decide_eq_true (by omega)
  rw [e8]
  ac_rfl
  unfold nameB at hx
  cases e : x.cps.toList with
  | nil => rw [e] at hx; cases hx
  | cons c r =>
    rw [e] at hx
    have h' : (letB c && r.all signB && decide (r.length ≤ 7)) = true := hx
    rw [Bool.and_eq_true, Bool.and_eq_true] at h'
    obtain ⟨⟨h1, h2⟩, h3⟩ := h'
    refine ix_str hsz (by rw [e]; exact atI_zero) ?_
    ac_rfl
    refine in_sign ?_
    refine ⟨true, by rw [decide_eq_true (let_in h1)], ?_⟩
    ac_rfl
    intro c0 hc0
    have hxl : (strD x).length ≤ sizeLine := by unfold strD; rw [List.length_map, ← str_len]; exact hsz
    refine lc_pure (fun _ => true) (fun _ => .bl true) hc0 hxl (fun _ => trivial) (fun y hy acc hz nx hyes _ => ?_) ?_
    · obtain ⟨d, hd, rfl⟩ := List.mem_map.mp hy
      have hsd : signB d = true := by
        rw [e] at hd
        rcases List.mem_cons.mp hd with rfl | hd
        · have := of_decide_eq_true h1
          exact decide_eq_true (.inl this)
        · exact List.all_eq_true.mp h2 d hd
      ac_rfl
      refine add_str (by rw [sizeLine_eq]; decide) ?_
      refine in_sign ?_
      rw [decide_eq_true (sign_in hsd)]
      exact acc_put hz (hyes rfl)
    · refine all_true (fun y hy => ?_) h
      obtain ⟨_, _, e⟩ := List.mem_map.mp hy
      exact e.symm
end R
set_option maxRecDepth 100000
set_option maxHeartbeats 1000000
namespace R
open PySem PySem.Spec PyProof.Rows L2 DL
local macro_rules | `(tactic| bv_omega) => `(tactic| first | assumption | exact mset_same)
local macro_rules | `(tactic| symm) => `(tactic| first
  | ((with_reducible show ∃ _, _ = _ ∧ _); refine ⟨_, rfl, ?_⟩)
  | ((with_reducible show _ = _ ∧ _); refine ⟨rfl, ?_⟩)
  | ((with_reducible show ∃ _ _, _ = _ ∧ _ = _ ∧ _); refine ⟨_, _, rfl, rfl, ?_⟩)
  | ((with_reducible show ∃ _ _, _ = _ ∧ _); refine ⟨_, _, rfl, ?_⟩)
  | ((with_reducible show ∃ _ _ _, _ = _ ∧ _); refine ⟨_, _, _, rfl, ?_⟩)
  | ((with_reducible show (_ ≤ _ ∧ _) ∧ _); refine ⟨by omega, ?_⟩)
  | with_reducible refine add_int ?_ | with_reducible refine sub_int ?_
  | with_reducible refine lt_int ?_ | with_reducible refine le_int ?_ | with_reducible refine gt_int ?_ | with_reducible refine ge_int ?_
  | with_reducible refine int_int ?_
  | with_reducible refine eq_int ?_ | with_reducible refine ne_int ?_
  | with_reducible refine len_tup ?_ | with_reducible refine len_lst ?_
  | ((with_reducible show rdIx (.cel _) (.int _) _ _); refine ix_cel (by bv_omega) (by rfl) ?_)
  | ((with_reducible show rdIx (.lst _) (.int _) _ _); refine ix_lst (by rfl) ?_)
  | ((with_reducible show rdIx (.tup _) (.int _) _ _); refine ix_tup (by rfl) ?_)
  | ((with_reducible show rdLen [.cel _] _ _); refine len_cel (by bv_omega) ?_)
  | ((with_reducible show rdMul (.int _) (.int _) _ _); first | refine mul_l (by decide) (by decide) ?_ | refine mul_r (by decide) (by decide) ?_ | refine mul_l (by omega) (by omega) ?_ | refine mul_r (by omega) (by omega) ?_)
  | ((with_reducible show rdDiv (.int _) (.int _) _ _); refine div_int (by first | decide | assumption | omega) (by first | decide | assumption | omega) ?_)
  | ((with_reducible show rdDivmod [.int _, .int _] _ _); refine dm_int (by first | decide | assumption | omega) (by first | decide | assumption | omega) ?_)
  | ((with_reducible show @ite _ (_ = true) _ _ _); first | refine ifYes (by first | with_reducible rfl | exact Bool.not_false | assumption) ?_ | refine ifNo (by first | with_reducible rfl | exact Bool.not_true | assumption) ?_)
  | ((with_reducible show ∃ _, _ ∧ _); refine ⟨_, celL_of (by bv_omega), ?_⟩)
  | ((with_reducible show ∃ _ _ _ _, _ ∧ _ ∧ _ ∧ _ ∧ _); refine ⟨_, _, _, _, rfl, rfl, by bv_omega, by rfl, ?_⟩)
  | ((with_reducible show (_ : Nat) ≤ sizeLine ∧ _); refine ⟨by rw [sizeLine_eq]; exact Nat.le_of_ble_eq_true rfl, ?_⟩))
local macro_rules | `(tactic| infer_instance) => `(tactic| ((repeat symm); try dsimp only))
local macro_rules | `(tactic| ac_rfl) => `(tactic| ((repeat (first | symm | ((with_reducible show rdMod (.int _) (.int _) _ _); refine mod_any (by first | decide | assumption | omega) ?_; intro _ _ _))); try dsimp only))
theorem zip_asc {ms : List Int} (h : ms.Pairwise (· < ·)) {y : D} (hy : y ∈ zipD (ms.map D.int) ((ms.map D.int).drop 1)) : ∃ a b : Int, y = .tup [.int a, .int b] ∧ a < b := by
  unfold zipD at hy
  obtain ⟨i, hi⟩ := List.getElem?_of_mem hy
  rw [List.getElem?_zipWith, List.getElem?_drop, List.getElem?_map, List.getElem?_map] at hi
  cases e1 : ms[i]? with
  | none => rw [e1] at hi; simp at hi
  | some a =>
    cases e2 : ms[1 + i]? with
    | none => rw [e1, e2] at hi; simp at hi
    | some b =>
      rw [e1, e2] at hi
      simp at hi
      refine ⟨a, b, hi.symm, ?_⟩
      obtain ⟨p1, q1⟩ := List.getElem?_eq_some_iff.mp e1
      obtain ⟨p2, q2⟩ := List.getElem?_eq_some_iff.mp e2
      have := List.pairwise_iff_getElem.mp h i (1 + i) p1 p2 (by omega)
      rw [q1, q2] at this
      exact this
theorem kp_is_ascending (C : Addr) : Keeps N_is_ascending 1 (sd_is_ascending C) (db_is_ascending C) := by
  rintro ds M q ex hl ⟨ms, rfl, h16, hasc, h⟩
  show db_is_ascending C _ [some (intsT ms), none, none] M
  unfold db_is_ascending
  ac_rfl
  refine slf_tup (n := 1) ?_
  ac_rfl
  refine ⟨_, _, _, _, rfl, .inl ⟨rfl, rfl, ?_⟩⟩
  intro c hc
  refine lc_pure (fun _ => true) (fun _ => .bl true) hc ?_ (fun _ => trivial) (fun y hy acc hz nx hyes _ => ?_) ?_
  · unfold zipD; rw [List.length_zipWith, List.length_map, sizeLine_eq]; omega
  · obtain ⟨a, b, rfl, hab⟩ := zip_asc hasc hy
    ac_rfl
    rw [decide_eq_true hab]
    exact acc_put hz (hyes rfl)
  · refine all_true (fun y hy => ?_) h
    obtain ⟨_, _, e⟩ := List.mem_map.mp hy
    exact e.symm
theorem kp_is_free_name (C : Addr) : Keeps N_is_free_name 2 (sd_is_free_name C) (db_is_free_name C) := by
  rintro ds M q ex hl ⟨x, hs, rfl, hx, h12, hne, h⟩
  show db_is_free_name C _ [some (.str x), some (crewD hs), none] M
  unfold db_is_free_name
  ac_rfl
  refine ⟨x, rfl, hx, ?_⟩
  ac_rfl
  intro c hc
  refine lc_pure (fun _ => true) (fun _ => .bl false) hc (by rw [List.length_map, sizeLine_eq]; omega) (fun _ => rfl) (fun y hy acc hz nx hyes _ => ?_) ?_
  · obtain ⟨o, ho, rfl⟩ := List.mem_map.mp hy
    obtain ⟨h1, h2⟩ := hne o ho
    ac_rfl
    refine eq_str (name_ok hx) (name_ok h1) ?_
    rw [decide_eq_false (fun e => h2 e.symm)]
    exact acc_put hz (hyes rfl)
  · refine any_false (fun y hy => ?_) ?_
    · obtain ⟨_, _, e⟩ := List.mem_map.mp hy
      exact e.symm
    · ac_rfl
      exact h
theorem kp_are_free_marks (C : Addr) : Keeps N_are_free_marks 3 (sd_are_free_marks C) (db_are_free_marks C) := by
  rintro ds M q ex hl ⟨ms, size, hs, rfl, hm, h12, hfree, h⟩
  show db_are_free_marks C _ [some (intsT ms), some (.int size), some (crewD hs), none, none] M
  unfold db_are_free_marks
  ac_rfl
  have h1 := hm.ne
  have h16 := hm.few
  rw [List.length_map]
  refine ifD (fun h2 => ?_) (fun h2 => absurd h1 (by omega))
  ac_rfl
  rw [decide_eq_true (show (ms.length : Int) ≤ 16 by omega)]
  ac_rfl
  intro c hc
  refine lc_pure (fun _ => true) (fun _ => .bl true) hc (by rw [List.length_map, sizeLine_eq]; omega) (fun _ => rfl) (fun y hy acc hz nx hyes _ => ?_) ?_
  · obtain ⟨m, mm, rfl⟩ := List.mem_map.mp hy
    ac_rfl
    refine ⟨m, 0, size - 1, rfl, ?_⟩
    have := hm.inn m mm
    rw [decide_eq_true (show 0 ≤ m ∧ m ≤ size - 1 by omega)]
    exact acc_put hz (hyes rfl)
  · refine all_true (fun y hy => ?_) ?_
    · obtain ⟨_, _, e⟩ := List.mem_map.mp hy
      exact e.symm
    ac_rfl
    refine ⟨ms, rfl, h16, hm.asc, ?_⟩
    ac_rfl
    intro c2 hc2
    refine lc2_lst (fun i M' => ∃ acc : List D, M' = mset M c2 (.ls acc) ∧ (∀ x ∈ acc, x = .bl false) ∧ acc.length ≤ 16 * i) ?_ ?_ _ ⟨[], rfl, fun x hx => by simp at hx, Nat.zero_le _⟩
    · rintro M' ⟨acc, rfl, ha, hl⟩
      refine ⟨rfl, acc, mset_same, ?_⟩
      rw [mdel_mset hc2]
      refine any_false ha ?_
      ac_rfl
      exact h
    · rintro i x M' hx ⟨acc, rfl, ha, hl⟩ nx hnx
      refine ⟨rfl, ?_⟩
      have hi := (List.getElem?_eq_some_iff.mp hx).1
      rw [List.length_map] at hi
      obtain ⟨o, ho, rfl⟩ := List.mem_map.mp (List.mem_of_getElem? hx)
      ac_rfl

      refine in_lst (fun j M' => ∃ acc : List D, M' = mset M c2 (.ls acc) ∧ (∀ x ∈ acc, x = .bl false) ∧ acc.length ≤ 16 * i + j) ?_ ?_ _ ⟨acc, rfl, ha, by omega⟩
      · rintro M' ⟨acc, rfl, ha, hl⟩
        rw [List.length_map] at hl
        exact ⟨rfl, hnx _ ⟨acc, rfl, ha, by omega⟩⟩
      · rintro j x M' hx ⟨acc, rfl, ha, hl⟩ nx2 hnx2
        have hj := (List.getElem?_eq_some_iff.mp hx).1
        rw [List.length_map] at hj
        obtain ⟨m, mm, rfl⟩ := List.mem_map.mp (List.mem_of_getElem? hx)
        refine ⟨rfl, ?_⟩
        ac_rfl
        refine in_int (xs := o.marks) rfl ?_
        rw [decide_eq_false (hfree o ho m mm)]
        refine acc_put (by rw [sizeLine_eq]; omega) (hnx2 _ ⟨acc ++ [.bl false], rfl, fun x hx => ?_, by rw [List.length_append, List.length_singleton]; omega⟩)
        rcases List.mem_append.mp hx with hx | hx
        · exact ha x hx
        · exact List.mem_singleton.mp hx
theorem kp_is_next_host (C : Addr) : Keeps N_is_next_host 3 (sd_is_next_host C) (db_is_next_host C) := by
  rintro ds M q ex hl ⟨o, size, hs, rfl, hn, h12, hnames, h⟩
  show db_is_next_host C _ [some (hostD o), some (.int size), some (crewD hs), none, none, none] M
  unfold db_is_next_host
  ac_rfl
  refine ⟨o.name, hs, rfl, hn.name, h12, fun p hp => ⟨hnames p hp, hn.fresh p hp⟩, ?_⟩
  ac_rfl
  refine ⟨o.rack, rfl, hn.rack, ?_⟩
  ac_rfl
  exact ⟨o.marks, size, hs, rfl, hn.marks, h12, hn.free, h⟩
theorem crew_name {size : Int} {hs : List Host} (h : CrewOk size hs) : ∀ o ∈ hs, nameB o.name = true := fun o ho => by
  obtain ⟨i, hi⟩ := List.getElem?_of_mem ho
  exact (h.each i o hi).name
theorem crew_marks {size : Int} {hs : List Host} (h : CrewOk size hs) : ∀ o ∈ hs, MarksOk size o.marks := fun o ho => by
  obtain ⟨i, hi⟩ := List.getElem?_of_mem ho
  exact (h.each i o hi).marks
theorem mem_take {α : Type} {xs : List α} {i j : Nat} {x : α} (h : xs[i]? = some x) (hij : i < j) : x ∈ xs.take j := by
  refine List.mem_of_getElem? (i := i) ?_
  rw [List.getElem?_take, if_pos hij]; exact h
theorem crew_inj {size : Int} {hs : List Host} (h : CrewOk size hs) {o p : Host} (ho : o ∈ hs) (hp : p ∈ hs) (e : o.name = p.name) : o = p := by
  obtain ⟨i, hi⟩ := List.getElem?_of_mem ho
  obtain ⟨j, hj⟩ := List.getElem?_of_mem hp
  rcases Nat.lt_trichotomy i j with l | l | l
  · exact absurd e ((h.each j p hj).fresh o (mem_take hi l))
  · subst l; rw [hi] at hj; exact Option.some.inj hj
  · exact absurd e.symm ((h.each i o hi).fresh p (mem_take hj l))
theorem crew_apart {size : Int} {hs : List Host} (h : CrewOk size hs) {o p : Host} (ho : o ∈ hs) (hp : p ∈ hs) {m : Int} (m1 : m ∈ o.marks) (m2 : m ∈ p.marks) : o = p := by
  obtain ⟨i, hi⟩ := List.getElem?_of_mem ho
  obtain ⟨j, hj⟩ := List.getElem?_of_mem hp
  rcases Nat.lt_trichotomy i j with l | l | l
  · exact absurd m1 ((h.each j p hj).free o (mem_take hi l) m m2)
  · subst l; rw [hi] at hj; exact Option.some.inj hj
  · exact absurd m2 ((h.each i o hi).free p (mem_take hj l) m m1)
theorem crew_rack {size : Int} {hs : List Host} (h : CrewOk size hs) {o : Host} (ho : o ∈ hs) : rackOf hs o.name = o.rack := by
  unfold rackOf
  cases e : hs.find? fun h => decide (h.name = o.name) with
  | none =>
    have := List.find?_eq_none.mp e o ho
    simp at this
  | some p =>
    have h1 := List.find?_some e
    have h2 := List.mem_of_find?_eq_some e
    have : p = o := crew_inj h h2 ho (by simpa using h1)
    subst this
    rfl
theorem kp_check_hosts (C : Addr) : Keeps N_check_hosts 2 (sd_check_hosts C) (db_check_hosts C) := by
  rintro ds M q ex hl ⟨size, hs, rfl, hc, h⟩
  show db_check_hosts C _ [some (.int size), some (crewD hs), none, none] M
  unfold db_check_hosts
  ac_rfl
  have hne : 0 < hs.length := List.length_pos_iff.mpr hc.ne
  have h12 := hc.few
  rw [decide_eq_false (show ¬ (((hs.map hostD).length : Int) = 0) by rw [List.length_map]; omega)]
  ac_rfl
  refine for_lst (fun i env M' => M' = M ∧ ∃ t u, env = [some (.int size), some (crewD hs), t, u]) ?_ ?_ _ _ ⟨rfl, none, none, rfl⟩
  · rintro env M' ⟨rfl, t, u, rfl⟩
    exact ⟨rfl, h⟩
  · rintro i x env M' hx ⟨rfl, t, u, rfl⟩ nx hn
    refine ⟨rfl, ?_⟩
    obtain ⟨y, hy, rfl⟩ := enumD_get hx
    rw [List.getElem?_map] at hy
    obtain ⟨o, ho, rfl⟩ := omap hy
    have hi := (List.getElem?_eq_some_iff.mp ho).1
    ac_rfl
    rw [decide_eq_false (show ¬ ((i : Int) = 12) by omega)]
    ac_rfl
    refine sl_tup (n := i) ?_
    rw [← List.map_take]
    ac_rfl
    refine ⟨o, size, hs.take i, rfl, hc.each i o ho, by rw [List.length_take]; omega, fun p hp => crew_name hc p (List.mem_of_mem_take hp), ?_⟩
    ac_rfl
    exact hn _ _ ⟨rfl, _, _, rfl⟩
theorem kp_Ring___init__ (C : Addr) : Keeps N_Ring___init__ 8 (sd_Ring___init__ C) (db_Ring___init__ C) := by
  rintro ds M q ex hl ⟨c, size, r, hs, rfl, hM, s0, s1, hr, hc, h⟩
  show db_Ring___init__ C _ [some (.cel c), some (.int size), some (.int r.wide), some (.str r.spread), some (.int r.write), some (.int r.read), some (.str r.pend), some (crewD hs)] M
  unfold db_Ring___init__
  ac_rfl
  refine ⟨size, 1, 1000000000000000000, rfl, ?_⟩
  rw [decide_eq_true (show 1 ≤ size ∧ size ≤ 1000000000000000000 from ⟨s0, s1⟩)]
  ac_rfl
  refine ⟨r.wide, 1, 5, rfl, ?_⟩
  rw [decide_eq_true hr.w]
  ac_rfl
  refine .inl ⟨r.spread, ["hosts", "racks"], rfl, ?_⟩
  rw [decide_eq_true (show r.spread ∈ (["hosts", "racks"] : List Str) by rcases hr.s with e | e <;> rw [e] <;> simp)]
  ac_rfl
  refine ⟨r.write, 1, r.wide, rfl, ?_⟩
  rw [decide_eq_true hr.p]
  ac_rfl
  refine ⟨r.read, 1, r.wide, rfl, ?_⟩
  rw [decide_eq_true hr.g]
  ac_rfl
  refine .inl ⟨r.pend, ["plain", "with"], rfl, ?_⟩
  rw [decide_eq_true (show r.pend ∈ (["plain", "with"] : List Str) by rcases hr.m with e | e <;> rw [e] <;> simp)]
  ac_rfl
  refine ⟨size, hs, rfl, hc, ?_⟩
  ac_rfl
  refine ⟨c, _, rfl, hM, Nat.le_of_ble_eq_true rfl, ?_⟩
  ac_rfl
  refine ⟨c, _, rfl, mset_same, Nat.le_of_ble_eq_true rfl, ?_⟩
  ac_rfl
  refine ⟨c, _, rfl, mset_same, Nat.le_of_ble_eq_true rfl, ?_⟩
  ac_rfl
  refine ⟨c, _, rfl, mset_same, Nat.le_of_ble_eq_true rfl, ?_⟩
  ac_rfl
  refine ⟨c, _, rfl, mset_same, Nat.le_of_ble_eq_true rfl, ?_⟩
  ac_rfl
  refine ⟨c, _, rfl, mset_same, Nat.le_of_ble_eq_true rfl, ?_⟩
  ac_rfl
  refine ⟨c, _, rfl, mset_same, Nat.le_of_ble_eq_true rfl, ?_⟩
  simp only [mset_mset]
  exact h
theorem fs_ring {C : Addr} {size : Int} {r : Rule} {hs : List Host} {M : Mem} : fsOf M C (ringD C size r hs) = some (fieldsD size r hs) := by
  show (if C = C then some (fNames.zip (frameL size r hs)) else none) = _
  rw [if_pos rfl]
  rfl
theorem fld_ring {C : Addr} {size : Int} {r : Rule} {hs : List Host} {M : Mem} {B : D → Prop} {f : Str} {v : D} (h : (fieldsD size r hs).lookup f = some v) (w : B v) : ∃ fs v, fsOf M C (ringD C size r hs) = some fs ∧ fs.lookup f = some v ∧ B v := ⟨_, v, fs_ring, h, w⟩
theorem lk_hosts {size : Int} {r : Rule} {hs : List Host} : (fieldsD size r hs).lookup ("_hosts" : Str) = some (crewD hs) := by rfl
theorem lk_points {size : Int} {r : Rule} {hs : List Host} : (fieldsD size r hs).lookup ("_points" : Str) = some (.int size) := by rfl
theorem lk_spread {size : Int} {r : Rule} {hs : List Host} : (fieldsD size r hs).lookup ("_spread" : Str) = some (.str r.spread) := by rfl
theorem lk_factor {size : Int} {r : Rule} {hs : List Host} : (fieldsD size r hs).lookup ("_factor" : Str) = some (.int r.wide) := by rfl
theorem kp_Ring__way (C : Addr) : Keeps N_Ring__way 3 (sd_Ring__way C) (db_Ring__way C) := by
  rintro ds M q ex hl ⟨size, r, hs, p, ms, rfl, h0, h1, h16, h⟩
  show db_Ring__way C _ [some (ringD C size r hs), some (.int p), some (intsT ms), none] M
  unfold db_Ring__way
  ac_rfl
  intro c hc
  refine lc_pure (fun _ => true) (fun d => match d with | .int k => .int ((k - p) % size) | d => d) hc (by rw [List.length_map, sizeLine_eq]; omega) (fun _ => rfl) (fun y hy acc hz nx hyes _ => ?_) ?_
  · obtain ⟨m, mm, rfl⟩ := List.mem_map.mp hy
    infer_instance
    refine fld_ring lk_points ?_
    refine mod_int h0 ?_
    exact acc_put hz (hyes rfl)
  · have e : ((ms.map D.int).filter (fun _ => true)).map (fun d => match d with | .int k => .int ((k - p) % size) | d => d) = (ms.map fun k => (k - p) % size).map D.int := by
      rw [List.filter_eq_self.mpr (fun _ _ => rfl), List.map_map, List.map_map]; rfl
    rw [e]
    refine ⟨_, _, _, rfl, rfl, ints_map _, by rw [List.length_map]; omega, fun m m1 m2 => h m ⟨m1, m2⟩⟩
end R
set_option maxRecDepth 100000
set_option maxHeartbeats 1000000
namespace R
open PySem PySem.Spec PyProof.Rows L2 DL
local macro_rules | `(tactic| bv_omega) => `(tactic| first | assumption | exact mset_same)
local macro_rules | `(tactic| symm) => `(tactic| first
  | ((with_reducible show ∃ _, _ = _ ∧ _); refine ⟨_, rfl, ?_⟩)
  | ((with_reducible show _ = _ ∧ _); refine ⟨rfl, ?_⟩)
  | ((with_reducible show ∃ _ _, _ = _ ∧ _ = _ ∧ _); refine ⟨_, _, rfl, rfl, ?_⟩)
  | ((with_reducible show ∃ _ _, _ = _ ∧ _); refine ⟨_, _, rfl, ?_⟩)
  | ((with_reducible show ∃ _ _ _, _ = _ ∧ _); refine ⟨_, _, _, rfl, ?_⟩)
  | ((with_reducible show (_ ≤ _ ∧ _) ∧ _); refine ⟨by omega, ?_⟩)
  | with_reducible refine add_int ?_ | with_reducible refine sub_int ?_
  | with_reducible refine lt_int ?_ | with_reducible refine le_int ?_ | with_reducible refine gt_int ?_ | with_reducible refine ge_int ?_
  | with_reducible refine int_int ?_
  | with_reducible refine eq_int ?_ | with_reducible refine ne_int ?_
  | with_reducible refine len_tup ?_ | with_reducible refine len_lst ?_
  | ((with_reducible show rdIx (.cel _) (.int _) _ _); refine ix_cel (by bv_omega) (by rfl) ?_)
  | ((with_reducible show rdIx (.lst _) (.int _) _ _); refine ix_lst (by rfl) ?_)
  | ((with_reducible show rdIx (.tup _) (.int _) _ _); refine ix_tup (by rfl) ?_)
  | ((with_reducible show rdLen [.cel _] _ _); refine len_cel (by bv_omega) ?_)
  | ((with_reducible show rdMul (.int _) (.int _) _ _); first | refine mul_l (by decide) (by decide) ?_ | refine mul_r (by decide) (by decide) ?_ | refine mul_l (by omega) (by omega) ?_ | refine mul_r (by omega) (by omega) ?_)
  | ((with_reducible show rdDiv (.int _) (.int _) _ _); refine div_int (by first | decide | assumption | omega) (by first | decide | assumption | omega) ?_)
  | ((with_reducible show rdDivmod [.int _, .int _] _ _); refine dm_int (by first | decide | assumption | omega) (by first | decide | assumption | omega) ?_)
  | ((with_reducible show @ite _ (_ = true) _ _ _); first | refine ifYes (by first | with_reducible rfl | exact Bool.not_false | assumption) ?_ | refine ifNo (by first | with_reducible rfl | exact Bool.not_true | assumption) ?_)
  | ((with_reducible show ∃ _, _ ∧ _); refine ⟨_, celL_of (by bv_omega), ?_⟩)
  | ((with_reducible show ∃ _ _ _ _, _ ∧ _ ∧ _ ∧ _ ∧ _); refine ⟨_, _, _, _, rfl, rfl, by bv_omega, by rfl, ?_⟩)
  | ((with_reducible show (_ : Nat) ≤ sizeLine ∧ _); refine ⟨by rw [sizeLine_eq]; exact Nat.le_of_ble_eq_true rfl, ?_⟩))
local macro_rules | `(tactic| infer_instance) => `(tactic| ((repeat symm); try dsimp only))
local macro_rules | `(tactic| ac_rfl) => `(tactic| ((repeat (first | symm | ((with_reducible show rdMod (.int _) (.int _) _ _); refine mod_any (by first | decide | assumption | omega) ?_; intro _ _ _))); try dsimp only))
theorem str_ext {x y : Str} (h : x.cps.toList = y.cps.toList) : x = y := TL.ext_tl h
theorem str_lit0 : ("0" : Str).cps.toList = [48] := by decide +kernel
theorem dig_in {c : Nat} : c ∈ ("0123456789" : Str).cps.toList ↔ digB c = true := by
  have e : ("0123456789" : Str).cps.toList = (List.range 10).map (48 + ·) := by decide +kernel
  rw [e, List.mem_map]
  unfold digB
  rw [decide_eq_true_iff]
  constructor
  · rintro ⟨a, h, rfl⟩; have := List.mem_range.mp h; omega
  · intro h; exact ⟨c - 48, List.mem_range.mpr (by omega), by omega⟩
theorem kp_is_written_number (C : Addr) : Keeps N_is_written_number 1 (sd_is_written_number C) (db_is_written_number C) := by
  rintro ds M q ex hl ⟨x, rfl, hx, h⟩
  show db_is_written_number C _ [some (.str x), none] M
  unfold db_is_written_number
  have hsz : x.length ≤ sizeLine := by rw [sizeLine_eq]; exact hx
  ac_rfl
  refine len_str hsz ?_
  ac_rfl
  refine ifD (fun h1 => ?_) (fun h1 => ?_)
  · ac_rfl
    have w : ∀ (b : Bool), decide ((x.length : Int) ≤ 19) = b → _ := fun b e => e
    cases e19 : decide ((x.length : Int) ≤ 19) with
    | false =>
      ac_rfl
      have e : wnB x = false := by
        unfold wnB
        rw [decide_eq_false (show ¬ (1 ≤ x.length ∧ x.length ≤ 19) from fun z => by have := of_decide_eq_false e19; omega)]
        rfl
      rw [e] at h
      exact h
    | true =>
      have h19 : x.length ≤ 19 := by have := of_decide_eq_true e19; omega
      have h01 : 1 ≤ x.length := by omega
      ac_rfl
      intro c0 hc0
      have hxl : (strD x).length ≤ sizeLine := by unfold strD; rw [List.length_map, ← str_len]; exact hsz
      refine lc_pure (fun _ => true) (fun d => match d with | .str s => .bl (s.cps.toList.all digB) | d => d) hc0 hxl (fun _ => trivial) (fun y hy acc hz nx hyes _ => ?_) ?_
      · obtain ⟨d, hd, rfl⟩ := List.mem_map.mp hy
        ac_rfl
        refine in_sign ?_
        have e : decide (d ∈ ("0123456789" : Str).cps.toList) = ([d] : List Nat).all digB := by
          rw [List.all_cons, List.all_nil, Bool.and_true]
          by_cases hh : digB d = true
          · rw [hh]; exact decide_eq_true (dig_in.mpr hh)
          · rw [show digB d = false by simpa using hh]; exact decide_eq_false fun z => hh (dig_in.mp z)
        rw [e]
        exact acc_put hz (hyes rfl)
      · have eb : bls (((strD x).filter fun _ => true).map fun d => match d with | .str s => .bl (s.cps.toList.all digB) | d => d) = some (x.cps.toList.map fun c => ([c] : List Nat).all digB) := by
          rw [List.filter_eq_self.mpr fun _ _ => rfl]
          unfold strD
          rw [List.map_map]
          generalize x.cps.toList = l
          induction l with
          | nil => rfl
          | cons a l ih =>
            show (bls _).map _ = _
            rw [ih]; rfl
        refine ⟨_, _, _, rfl, rfl, eb, ?_⟩
        have ea : (x.cps.toList.map fun c => ([c] : List Nat).all digB).all id = x.cps.toList.all digB := by
          rw [List.all_map]
          congr 1
          funext c
          simp
        rw [ea]
        ac_rfl
        have ew : wnB x = (x.cps.toList.all digB && (decide (x = ("0" : Str)) || decide (x.cps.toList.head? ≠ some 48))) := by
          unfold wnB
          rw [decide_eq_true (show 1 ≤ x.length ∧ x.length ≤ 19 from ⟨h01, h19⟩), Bool.true_and]
        refine ifB (fun hb => ?_) (fun hb => ?_)
        · ac_rfl
          refine eq_strA ?_
          refine ⟨_, rfl, ?_⟩
          refine ifB (fun h0 => ?_) (fun h0 => ?_)
          · rw [ew, hb, h0] at h
            exact h
          · ac_rfl
            obtain ⟨c, r, hcr⟩ : ∃ c r, x.cps.toList = c :: r := by
              cases e : x.cps.toList with
              | nil => rw [str_len, e] at h01; exact absurd h01 (by simp)
              | cons c r => exact ⟨c, r, rfl⟩
            refine ix_str hsz (by rw [hcr]; exact atI_zero) ?_
            ac_rfl
            refine ne_strA ?_
            have e2 : (!decide ((⟨#[c]⟩ : Str) = ("0" : Str))) = decide (x.cps.toList.head? ≠ some 48) := by
              rw [hcr, List.head?_cons]
              by_cases hc : c = 48
              · subst hc
                have : (⟨#[48]⟩ : Str) = ("0" : Str) := by decide +kernel
                rw [decide_eq_true this, decide_eq_false (fun z => z rfl)]
                rfl
              · rw [decide_eq_false (fun z => hc ?_), decide_eq_true (show some c ≠ some 48 from fun z => hc (Option.some.inj z))]
                · rfl
                · have := congrArg (fun s : Str => s.cps.toList) z
                  rw [str_lit0] at this
                  have e3 : ([c] : List Nat) = [48] := this
                  simpa using e3
            rw [e2]
            rw [ew, hb, h0] at h
            exact h
        · rw [ew, hb] at h
          exact h
  · have e : wnB x = false := by
      unfold wnB
      rw [decide_eq_false (show ¬ (1 ≤ x.length ∧ x.length ≤ 19) from fun z => h1 (by omega))]
      rfl
    ac_rfl
    rw [e] at h
    exact h
theorem wnB_digits {x : Str} (h : wnB x = true) : x.cps.toList.all digB = true ∧ 1 ≤ x.length ∧ x.length ≤ 19 := by
  unfold wnB at h
  rw [Bool.and_eq_true, Bool.and_eq_true] at h
  exact ⟨h.2.1, of_decide_eq_true h.1⟩
theorem int_of_digits {x : Str} (h : wnB x = true) : PySem.intText? x = some ((NumText.digitsVal x.cps.toList : Nat) : Int) := by
  obtain ⟨h1, h2, h3⟩ := wnB_digits h
  refine PySem.intText_digits ?_ ?_ (by omega)
  · intro c hc
    have := List.all_eq_true.mp h1 c hc
    exact of_decide_eq_true this
  · intro e
    rw [str_len, e] at h2
    exact absurd h2 (by simp)
theorem kp_written_number (C : Addr) : Keeps N_written_number 1 (sd_written_number C) (db_written_number C) := by
  rintro ds M q ex hl ⟨x, rfl, hx, h⟩
  show db_written_number C _ [some (.str x)] M
  unfold db_written_number
  infer_instance
  refine ⟨x, rfl, hx, ?_⟩
  infer_instance
  unfold wnum at h
  cases hb : wnB x with
  | true =>
    rw [hb, if_pos rfl] at h
    infer_instance
    exact ⟨x, _, rfl, int_of_digits hb, by have := wnB_digits hb; omega, h⟩
  | false =>
    rw [hb] at h
    infer_instance
    exact h
theorem num_tl (n : Nat) : (numS (n : Int)).cps.toList = TL.numL n := TL.tl_num n
theorem num_wn {n : Nat} (h : n < 10 ^ 19) : wnum (numS (n : Int)) = some (n : Int) := by
  have hd : (numS (n : Int)).cps.toList.all digB = true := by
    rw [num_tl, List.all_eq_true]
    intro c hc
    exact decide_eq_true (TL.numL_digits n c hc)
  have hl : (numS (n : Int)).length ≤ 19 := by
    rw [str_len, num_tl]; exact TL.numL_len (by decide) h
  have hl1 : 1 ≤ (numS (n : Int)).length := by
    rw [str_len, num_tl]
    have := TL.numL_ne n
    cases e : TL.numL n with
    | nil => exact absurd e this
    | cons c r => simp
  have hz : (decide ((numS (n : Int)) = ("0" : Str)) || decide ((numS (n : Int)).cps.toList.head? ≠ some 48)) = true := by
    rw [num_tl]
    by_cases h0 : n = 0
    · subst h0
      rw [Bool.or_eq_true]; left
      decide +kernel
    · rw [Bool.or_eq_true]; right
      rw [decide_eq_true_iff]
      have key : ∀ m : Nat, m ≠ 0 → (TL.numL m).head? ≠ some 48 := by
        intro m
        induction m using Nat.strongRecOn with
        | ind m ih =>
          intro hm
          by_cases h10 : m < 10
          · rw [TL.numL_lt h10]
            simp
            omega
          · rw [TL.numL_step (by omega)]
            have h1 := ih (m / 10) (by omega) (by omega)
            have h2 := TL.numL_ne (m / 10)
            cases e : TL.numL (m / 10) with
            | nil => exact absurd e h2
            | cons c r => rw [e] at h1; simpa using h1
      exact key n h0
  have hw : wnB (numS (n : Int)) = true := by
    unfold wnB
    rw [decide_eq_true (show 1 ≤ (numS (n : Int)).length ∧ (numS (n : Int)).length ≤ 19 from ⟨hl1, hl⟩), hd, hz]
    rfl
  unfold wnum
  rw [hw, if_pos rfl, num_tl, TL.numL_val]
theorem num_wnI {i : Int} (h0 : 0 ≤ i) (h1 : i < 10 ^ 19) : wnum (numS i) = some i := by
  obtain ⟨n, rfl⟩ := Int.eq_ofNat_of_zero_le h0
  exact num_wn (by omega)
theorem num_len {i : Int} (h0 : 0 ≤ i) (h1 : i < 10 ^ 19) : (numS i).length ≤ 19 := by
  obtain ⟨n, rfl⟩ := Int.eq_ofNat_of_zero_le h0
  rw [str_len, num_tl]; exact TL.numL_len (by decide) (by omega)
theorem num_free {i : Int} (h0 : 0 ≤ i) {s : Nat} (hs : s < 48) : s ∉ (numS i).cps.toList := by
  obtain ⟨n, rfl⟩ := Int.eq_ofNat_of_zero_le h0
  rw [num_tl]; exact TL.numL_free (.inl hs)
theorem name_free {x : Str} (h : nameB x = true) {s : Nat} (hs : s < 48) : s ∉ x.cps.toList := by
  unfold nameB at h
  cases e : x.cps.toList with
  | nil => simp
  | cons c r =>
    rw [e] at h
    have h' : (letB c && r.all signB && decide (r.length ≤ 7)) = true := h
    rw [Bool.and_eq_true, Bool.and_eq_true] at h'
    obtain ⟨⟨h1, h2⟩, _⟩ := h'
    intro hm
    rcases List.mem_cons.mp hm with rfl | hm
    · have := of_decide_eq_true h1; omega
    · have := of_decide_eq_true (List.all_eq_true.mp h2 s hm); omega
theorem join_len (S : List Nat) : ∀ ps : List (List Nat), (TL.joinL S ps).length ≤ (ps.map (·.length)).sum + ps.length * S.length
  | [] => by simp [TL.joinL]
  | [p] => by simp [TL.joinL]
  | p :: q :: r => by
    have ih := join_len S (q :: r)
    show (p ++ (S ++ TL.joinL S (q :: r))).length ≤ _
    rw [List.length_append, List.length_append, List.map_cons, List.sum_cons, List.length_cons, Nat.succ_mul]
    omega
theorem tl_txt (y : Str) (ps : List Str) : (Txt.join y ps).cps.toList = TL.joinL y.cps.toList (ps.map fun p => p.cps.toList) := by
  rw [TL.join_eq]; exact TL.tl_join y ps
theorem txt_len (y : Str) (ps : List Str) : (Txt.join y ps).length ≤ (ps.map (·.length)).sum + ps.length * y.length := by
  rw [str_len, tl_txt]
  refine Nat.le_trans (join_len _ _) ?_
  rw [List.map_map, List.length_map, ← str_len]
  have : ((fun x : List Nat => x.length) ∘ fun p : Str => p.cps.toList) = fun p : Str => p.length := by
    funext p; show p.cps.toList.length = p.length; rw [str_len]
  rw [this]
  exact Nat.le_refl _
theorem join_free {s : Nat} {S : List Nat} (hS : s ∉ S) : ∀ {ps : List (List Nat)}, (∀ p ∈ ps, s ∉ p) → s ∉ TL.joinL S ps
  | [], _ => by simp [TL.joinL]
  | [p], h => by simpa [TL.joinL] using h p (by simp)
  | p :: q :: r, h => by
    have ih := join_free hS (ps := q :: r) fun x hx => h x (List.mem_cons_of_mem _ hx)
    show s ∉ p ++ (S ++ TL.joinL S (q :: r))
    intro hm
    rcases List.mem_append.mp hm with hm | hm
    · exact h p (by simp) hm
    · rcases List.mem_append.mp hm with hm | hm
      · exact hS hm
      · exact ih hm
theorem split_sp {ps : List Str} (hne : ps ≠ []) (h : ∀ p ∈ ps, 32 ∉ p.cps.toList) : Txt.split (Txt.join " " ps) " " = ps := by
  exact TL.split_join (y := (" " : Str)) (s := 32) (S := []) (by decide +kernel) (by decide +kernel) hne h
theorem split_nl {ps : List Str} (hne : ps ≠ []) (h : ∀ p ∈ ps, 10 ∉ p.cps.toList) : Txt.split (Txt.join "\n" ps) "\n" = ps := by
  exact TL.split_join (y := ("\n" : Str)) (s := 10) (S := []) (by decide +kernel) (by decide +kernel) hne h
theorem sum_le {α : Type} {f : α → Nat} {b : Nat} : ∀ {l : List α}, (∀ x ∈ l, f x ≤ b) → (l.map f).sum ≤ l.length * b
  | [], _ => by simp
  | x :: l, h => by
    have := sum_le (l := l) fun y hy => h y (List.mem_cons_of_mem _ hy)
    have h1 := h x (by simp)
    rw [List.map_cons, List.sum_cons, List.length_cons, Nat.succ_mul]
    omega
end R
set_option maxRecDepth 100000
set_option maxHeartbeats 1000000
namespace R
open PySem PySem.Spec PyProof.Rows L2 DL
local macro_rules | `(tactic| bv_omega) => `(tactic| first | assumption | exact mset_same)
local macro_rules | `(tactic| symm) => `(tactic| first
  | ((with_reducible show ∃ _, _ = _ ∧ _); refine ⟨_, rfl, ?_⟩)
  | ((with_reducible show _ = _ ∧ _); refine ⟨rfl, ?_⟩)
  | ((with_reducible show ∃ _ _, _ = _ ∧ _ = _ ∧ _); refine ⟨_, _, rfl, rfl, ?_⟩)
  | ((with_reducible show ∃ _ _, _ = _ ∧ _); refine ⟨_, _, rfl, ?_⟩)
  | ((with_reducible show ∃ _ _ _, _ = _ ∧ _); refine ⟨_, _, _, rfl, ?_⟩)
  | ((with_reducible show (_ ≤ _ ∧ _) ∧ _); refine ⟨by omega, ?_⟩)
  | with_reducible refine add_int ?_ | with_reducible refine sub_int ?_
  | with_reducible refine lt_int ?_ | with_reducible refine le_int ?_ | with_reducible refine gt_int ?_ | with_reducible refine ge_int ?_
  | with_reducible refine int_int ?_
  | with_reducible refine eq_int ?_ | with_reducible refine ne_int ?_
  | with_reducible refine len_tup ?_ | with_reducible refine len_lst ?_
  | ((with_reducible show rdIx (.cel _) (.int _) _ _); refine ix_cel (by bv_omega) (by rfl) ?_)
  | ((with_reducible show rdIx (.lst _) (.int _) _ _); refine ix_lst (by rfl) ?_)
  | ((with_reducible show rdIx (.tup _) (.int _) _ _); refine ix_tup (by rfl) ?_)
  | ((with_reducible show rdLen [.cel _] _ _); refine len_cel (by bv_omega) ?_)
  | ((with_reducible show rdMul (.int _) (.int _) _ _); first | refine mul_l (by decide) (by decide) ?_ | refine mul_r (by decide) (by decide) ?_ | refine mul_l (by omega) (by omega) ?_ | refine mul_r (by omega) (by omega) ?_)
  | ((with_reducible show rdDiv (.int _) (.int _) _ _); refine div_int (by first | decide | assumption | omega) (by first | decide | assumption | omega) ?_)
  | ((with_reducible show rdDivmod [.int _, .int _] _ _); refine dm_int (by first | decide | assumption | omega) (by first | decide | assumption | omega) ?_)
  | ((with_reducible show @ite _ (_ = true) _ _ _); first | refine ifYes (by first | with_reducible rfl | exact Bool.not_false | assumption) ?_ | refine ifNo (by first | with_reducible rfl | exact Bool.not_true | assumption) ?_)
  | ((with_reducible show ∃ _, _ ∧ _); refine ⟨_, celL_of (by bv_omega), ?_⟩)
  | ((with_reducible show ∃ _ _ _ _, _ ∧ _ ∧ _ ∧ _ ∧ _); refine ⟨_, _, _, _, rfl, rfl, by bv_omega, by rfl, ?_⟩)
  | ((with_reducible show (_ : Nat) ≤ sizeLine ∧ _); refine ⟨by rw [sizeLine_eq]; exact Nat.le_of_ble_eq_true rfl, ?_⟩))
local macro_rules | `(tactic| infer_instance) => `(tactic| ((repeat symm); try dsimp only))
local macro_rules | `(tactic| ac_rfl) => `(tactic| ((repeat (first | symm | ((with_reducible show rdMod (.int _) (.int _) _ _); refine mod_any (by first | decide | assumption | omega) ?_; intro _ _ _))); try dsimp only))
theorem marks_num {size : Int} {ms : List Int} (h : MarksOk size ms) (hs : size ≤ 1000000000000000000) {m : Int} (hm : m ∈ ms) : 0 ≤ m ∧ m < 10 ^ 19 := by
  have := h.inn m hm
  exact ⟨this.1, by omega⟩
theorem hostRow_words {size : Int} {h : Host} (hT : HostT size h) (hs : size ≤ 1000000000000000000) : ∀ p ∈ ((["host", h.name, h.rack] : List Str) ++ h.marks.map numS), 32 ∉ p.cps.toList ∧ 10 ∉ p.cps.toList ∧ p.length ≤ 19 := by
  intro p hp
  rcases List.mem_append.mp hp with hp | hp
  · simp only [List.mem_cons, List.not_mem_nil, or_false] at hp
    rcases hp with rfl | rfl | rfl
    · exact ⟨by decide +kernel, by decide +kernel, by decide +kernel⟩
    · exact ⟨name_free hT.name (by decide), name_free hT.name (by decide), by have := name_len hT.name; omega⟩
    · exact ⟨name_free hT.rack (by decide), name_free hT.rack (by decide), by have := name_len hT.rack; omega⟩
  · obtain ⟨m, hm, rfl⟩ := List.mem_map.mp hp
    have := marks_num hT.marks hs hm
    exact ⟨num_free this.1 (by decide), num_free this.1 (by decide), num_len this.1 this.2⟩
theorem hostRow_split {size : Int} {h : Host} (hT : HostT size h) (hs : size ≤ 1000000000000000000) : Txt.split (hostRow h) " " = (["host", h.name, h.rack] : List Str) ++ h.marks.map numS :=
  split_sp (by simp) fun p hp => (hostRow_words hT hs p hp).1
theorem hostRow_nl {size : Int} {h : Host} (hT : HostT size h) (hs : size ≤ 1000000000000000000) : 10 ∉ (hostRow h).cps.toList := by
  unfold hostRow
  rw [tl_txt]
  refine join_free (by decide +kernel) fun p hp => ?_
  obtain ⟨x, hx, rfl⟩ := List.mem_map.mp hp
  exact (hostRow_words hT hs x hx).2.1
theorem sp_len : (" " : Str).length = 1 := by decide +kernel
theorem nl_len : ("\n" : Str).length = 1 := by decide +kernel
theorem hostRow_len {size : Int} {h : Host} (hT : HostT size h) (hs : size ≤ 1000000000000000000) : (hostRow h).length ≤ 400 ∧ (((["host", h.name, h.rack] : List Str) ++ h.marks.map numS).map (·.length)).sum + ((["host", h.name, h.rack] : List Str) ++ h.marks.map numS).length * (" " : Str).length ≤ 400 := by
  have h1 := sum_le (f := fun s : Str => s.length) (b := 19) fun p hp => (hostRow_words hT hs p hp).2.2
  have h3 : ((["host", h.name, h.rack] : List Str) ++ h.marks.map numS).length ≤ 19 := by
    have := hT.marks.few
    rw [List.length_append, List.length_map]
    simp only [List.length_cons, List.length_nil]
    omega
  have h2 := txt_len " " ((["host", h.name, h.rack] : List Str) ++ h.marks.map numS)
  unfold hostRow
  rw [sp_len] at h2 ⊢
  generalize ((["host", h.name, h.rack] : List Str) ++ h.marks.map numS) = l at *
  have h4 : l.length * 19 ≤ 19 * 19 := Nat.mul_le_mul_right 19 h3
  omega
theorem crew_hostT {size : Int} {hs : List Host} (hc : CrewOk size hs) {h : Host} (hh : h ∈ hs) : HostT size h := by
  obtain ⟨i, hi⟩ := List.getElem?_of_mem hh
  have := hc.each i h hi
  exact ⟨this.name, this.rack, this.marks⟩
theorem kp_written_host (C : Addr) : Keeps N_written_host 1 (sd_written_host C) (db_written_host C) := by
  rintro ds M q ex hl ⟨size, h, rfl, hs, hT, hq⟩
  show db_written_host C _ [some (.str (hostRow h)), none, none] M
  unfold db_written_host
  have hlen := (hostRow_len hT hs).1
  ac_rfl
  refine ⟨_, rfl, by decide +kernel, by rw [sizeLine_eq]; omega, ?_⟩
  rw [hostRow_split hT hs]
  have em : (((["host", h.name, h.rack] : List Str) ++ h.marks.map numS).map D.str) = .str "host" :: .str h.name :: .str h.rack :: (h.marks.map numS).map D.str := rfl
  rw [em]
  ac_rfl
  refine ix_lst (atI_nat (n := 0) rfl) ?_
  ac_rfl
  refine ne_strA ?_
  rw [decide_eq_true rfl]
  ac_rfl
  have h1 := hT.marks.ne
  have h16 := hT.marks.few
  have e4 : decide (((D.str "host" :: D.str h.name :: D.str h.rack :: (h.marks.map numS).map D.str).length : Int) < 4) = false := by
    refine decide_eq_false ?_
    simp only [List.length_cons, List.length_map]
    omega
  rw [e4]
  ac_rfl
  refine ix_lst (atI_nat (n := 1) rfl) ?_
  ac_rfl
  refine ix_lst (atI_nat (n := 2) rfl) ?_
  ac_rfl
  refine slf_lst (n := 3) ?_
  ac_rfl
  intro c hc
  refine lc_pure (fun _ => true) (fun d => match d with | .str s => optD (wnum s) | d => d) hc ?_ (fun _ => rfl) (fun y hy acc hz nx hyes _ => ?_) ?_
  · show ((h.marks.map numS).map D.str).length ≤ sizeLine
    rw [List.length_map, List.length_map, sizeLine_eq]; omega
  · obtain ⟨z, hz2, rfl⟩ := List.mem_map.mp (show y ∈ (h.marks.map numS).map D.str from hy)
    obtain ⟨m, hm, rfl⟩ := List.mem_map.mp hz2
    have hn := marks_num hT.marks hs hm
    ac_rfl
    refine ⟨numS m, rfl, by have := num_len hn.1 hn.2; omega, ?_⟩
    exact acc_put hz (hyes rfl)
  · have e : ((((h.marks.map numS).map D.str).filter fun _ => true).map fun d => match d with | .str s => optD (wnum s) | d => d) = h.marks.map D.int := by
      rw [List.filter_eq_self.mpr fun _ _ => rfl, List.map_map, List.map_map]
      refine List.map_congr_left fun m hm => ?_
      have hn := marks_num hT.marks hs hm
      show optD (wnum (numS m)) = .int m
      rw [num_wnI hn.1 hn.2]
      rfl
    refine ⟨_, _, rfl, rfl, ?_⟩
    ac_rfl
    rw [show ((List.drop 3 (D.str "host" :: D.str h.name :: D.str h.rack :: List.map D.str (List.map numS h.marks))).filter fun _ => true) = ((h.marks.map numS).map D.str).filter fun _ => true from rfl, e]
    exact hq M (Kept.refl M)
end R
set_option maxRecDepth 100000
set_option maxHeartbeats 1000000
namespace R
open PySem PySem.Spec PyProof.Rows L2 DL
local macro_rules | `(tactic| bv_omega) => `(tactic| first | assumption | exact mset_same)
local macro_rules | `(tactic| symm) => `(tactic| first
  | ((with_reducible show ∃ _, _ = _ ∧ _); refine ⟨_, rfl, ?_⟩)
  | ((with_reducible show _ = _ ∧ _); refine ⟨rfl, ?_⟩)
  | ((with_reducible show ∃ _ _, _ = _ ∧ _ = _ ∧ _); refine ⟨_, _, rfl, rfl, ?_⟩)
  | ((with_reducible show ∃ _ _, _ = _ ∧ _); refine ⟨_, _, rfl, ?_⟩)
  | ((with_reducible show ∃ _ _ _, _ = _ ∧ _); refine ⟨_, _, _, rfl, ?_⟩)
  | ((with_reducible show (_ ≤ _ ∧ _) ∧ _); refine ⟨by omega, ?_⟩)
  | with_reducible refine add_int ?_ | with_reducible refine sub_int ?_
  | with_reducible refine lt_int ?_ | with_reducible refine le_int ?_ | with_reducible refine gt_int ?_ | with_reducible refine ge_int ?_
  | with_reducible refine int_int ?_
  | with_reducible refine eq_int ?_ | with_reducible refine ne_int ?_
  | with_reducible refine len_tup ?_ | with_reducible refine len_lst ?_
  | ((with_reducible show rdIx (.cel _) (.int _) _ _); refine ix_cel (by bv_omega) (by rfl) ?_)
  | ((with_reducible show rdIx (.lst _) (.int _) _ _); refine ix_lst (by rfl) ?_)
  | ((with_reducible show rdIx (.tup _) (.int _) _ _); refine ix_tup (by rfl) ?_)
  | ((with_reducible show rdLen [.cel _] _ _); refine len_cel (by bv_omega) ?_)
  | ((with_reducible show rdMul (.int _) (.int _) _ _); first | refine mul_l (by decide) (by decide) ?_ | refine mul_r (by decide) (by decide) ?_ | refine mul_l (by omega) (by omega) ?_ | refine mul_r (by omega) (by omega) ?_)
  | ((with_reducible show rdDiv (.int _) (.int _) _ _); refine div_int (by first | decide | assumption | omega) (by first | decide | assumption | omega) ?_)
  | ((with_reducible show rdDivmod [.int _, .int _] _ _); refine dm_int (by first | decide | assumption | omega) (by first | decide | assumption | omega) ?_)
  | ((with_reducible show @ite _ (_ = true) _ _ _); first | refine ifYes (by first | with_reducible rfl | exact Bool.not_false | assumption) ?_ | refine ifNo (by first | with_reducible rfl | exact Bool.not_true | assumption) ?_)
  | ((with_reducible show ∃ _, _ ∧ _); refine ⟨_, celL_of (by bv_omega), ?_⟩)
  | ((with_reducible show ∃ _ _ _ _, _ ∧ _ ∧ _ ∧ _ ∧ _); refine ⟨_, _, _, _, rfl, rfl, by bv_omega, by rfl, ?_⟩)
  | ((with_reducible show (_ : Nat) ≤ sizeLine ∧ _); refine ⟨by rw [sizeLine_eq]; exact Nat.le_of_ble_eq_true rfl, ?_⟩))
local macro_rules | `(tactic| infer_instance) => `(tactic| ((repeat symm); try dsimp only))
local macro_rules | `(tactic| ac_rfl) => `(tactic| ((repeat (first | symm | ((with_reducible show rdMod (.int _) (.int _) _ _); refine mod_any (by first | decide | assumption | omega) ?_; intro _ _ _))); try dsimp only))
theorem spread_ok {s : Str} (h : s = "hosts" ∨ s = "racks") : 32 ∉ s.cps.toList ∧ 10 ∉ s.cps.toList ∧ s.length ≤ 19 := by
  rcases h with rfl | rfl <;> exact ⟨by decide +kernel, by decide +kernel, by decide +kernel⟩
theorem pend_ok {s : Str} (h : s = "plain" ∨ s = "with") : 32 ∉ s.cps.toList ∧ 10 ∉ s.cps.toList ∧ s.length ≤ 19 := by
  rcases h with rfl | rfl <;> exact ⟨by decide +kernel, by decide +kernel, by decide +kernel⟩
structure RowOk (size : Int) (r : Rule) : Prop where
  p : 0 ≤ size ∧ size < 10 ^ 19
  w : 0 ≤ r.wide ∧ r.wide < 10 ^ 19
  a : 0 ≤ r.write ∧ r.write < 10 ^ 19
  b : 0 ≤ r.read ∧ r.read < 10 ^ 19
theorem rowOk_of {size : Int} {r : Rule} (s0 : 1 ≤ size) (s1 : size ≤ 1000000000000000000) (hr : RuleOk r) : RowOk size r := by
  obtain ⟨h1, h2, h3, h4, h5⟩ := hr
  exact ⟨by omega, by omega, by omega, by omega⟩
theorem ringRow_words {size : Int} {r : Rule} (h : RowOk size r) (hr : RuleOk r) : ∀ p ∈ (["ring", numS size, numS r.wide, r.spread, numS r.write, numS r.read, r.pend] : List Str), 32 ∉ p.cps.toList ∧ 10 ∉ p.cps.toList ∧ p.length ≤ 19 := by
  have nm : ∀ {i : Int}, 0 ≤ i ∧ i < 10 ^ 19 → 32 ∉ (numS i).cps.toList ∧ 10 ∉ (numS i).cps.toList ∧ (numS i).length ≤ 19 := fun h => ⟨num_free h.1 (by decide), num_free h.1 (by decide), num_len h.1 h.2⟩
  intro p hp
  simp only [List.mem_cons, List.not_mem_nil, or_false] at hp
  rcases hp with rfl | rfl | rfl | rfl | rfl | rfl | rfl
  · exact ⟨by decide +kernel, by decide +kernel, by decide +kernel⟩
  · exact nm h.p
  · exact nm h.w
  · exact spread_ok hr.s
  · exact nm h.a
  · exact nm h.b
  · exact pend_ok hr.m
theorem ringRow_split {size : Int} {r : Rule} (h : RowOk size r) (hr : RuleOk r) : Txt.split (ringRow size r) " " = (["ring", numS size, numS r.wide, r.spread, numS r.write, numS r.read, r.pend] : List Str) :=
  split_sp (by simp) fun p hp => (ringRow_words h hr p hp).1
theorem ringRow_nl {size : Int} {r : Rule} (h : RowOk size r) (hr : RuleOk r) : 10 ∉ (ringRow size r).cps.toList := by
  unfold ringRow
  rw [tl_txt]
  refine join_free (by decide +kernel) fun p hp => ?_
  obtain ⟨x, hx, rfl⟩ := List.mem_map.mp hp
  exact (ringRow_words h hr x hx).2.1
theorem ringRow_len {size : Int} {r : Rule} (h : RowOk size r) (hr : RuleOk r) : (ringRow size r).length ≤ 400 ∧ ((["ring", numS size, numS r.wide, r.spread, numS r.write, numS r.read, r.pend] : List Str).map (·.length)).sum + (["ring", numS size, numS r.wide, r.spread, numS r.write, numS r.read, r.pend] : List Str).length * (" " : Str).length ≤ 400 := by
  have h1 := sum_le (f := fun s : Str => s.length) (b := 19) fun p hp => (ringRow_words h hr p hp).2.2
  have h2 := txt_len " " (["ring", numS size, numS r.wide, r.spread, numS r.write, numS r.read, r.pend] : List Str)
  have h3 : (["ring", numS size, numS r.wide, r.spread, numS r.write, numS r.read, r.pend] : List Str).length = 7 := rfl
  unfold ringRow
  rw [sp_len] at h2 ⊢
  rw [h3] at h1 h2 ⊢
  generalize ((["ring", numS size, numS r.wide, r.spread, numS r.write, numS r.read, r.pend] : List Str).map (·.length)).sum = t at *
  omega
theorem sheet_rows {size : Int} {r : Rule} {hs : List Host} (s0 : 1 ≤ size) (s1 : size ≤ 1000000000000000000) (hr : RuleOk r) (hc : CrewOk size hs) : ∀ p ∈ ringRow size r :: hs.map hostRow, 10 ∉ p.cps.toList ∧ p.length ≤ 400 := by
  have hw := rowOk_of s0 s1 hr
  intro p hp
  rcases List.mem_cons.mp hp with rfl | hp
  · exact ⟨ringRow_nl hw hr, (ringRow_len hw hr).1⟩
  · obtain ⟨o, ho, rfl⟩ := List.mem_map.mp hp
    exact ⟨hostRow_nl (crew_hostT hc ho) s1, (hostRow_len (crew_hostT hc ho) s1).1⟩
theorem sheet_split {size : Int} {r : Rule} {hs : List Host} (s0 : 1 ≤ size) (s1 : size ≤ 1000000000000000000) (hr : RuleOk r) (hc : CrewOk size hs) : Txt.split (sheetS size r hs) "\n" = ringRow size r :: hs.map hostRow :=
  split_nl (by simp) fun p hp => (sheet_rows s0 s1 hr hc p hp).1
theorem sheet_len {size : Int} {r : Rule} {hs : List Host} (s0 : 1 ≤ size) (s1 : size ≤ 1000000000000000000) (hr : RuleOk r) (hc : CrewOk size hs) : (sheetS size r hs).length ≤ 6000 ∧ ((ringRow size r :: hs.map hostRow).map (·.length)).sum + (ringRow size r :: hs.map hostRow).length * ("\n" : Str).length ≤ 6000 := by
  have h1 := sum_le (f := fun s : Str => s.length) (b := 400) fun p hp => (sheet_rows s0 s1 hr hc p hp).2
  have h2 := txt_len "\n" (ringRow size r :: hs.map hostRow)
  have h3 : (ringRow size r :: hs.map hostRow).length ≤ 13 := by
    have := hc.few
    rw [List.length_cons, List.length_map]; omega
  unfold sheetS
  rw [nl_len] at h2 ⊢
  generalize (ringRow size r :: hs.map hostRow) = l at *
  have h4 : l.length * 400 ≤ 13 * 400 := Nat.mul_le_mul_right 400 h3
  omega
theorem kp_Ring_read (C : Addr) : Keeps N_Ring_read 2 (sd_Ring_read C) (db_Ring_read C) := by
  rintro ds M q ex hl ⟨size, r, hs, rfl, s0, s1, hr, hc, h⟩
  show db_Ring_read C _ [some (.cel C), some (.str (sheetS size r hs)), none, none, none, none, none, none, none, none, none] M
  unfold db_Ring_read
  have hw := rowOk_of s0 s1 hr
  have hlen := (sheet_len s0 s1 hr hc).1
  infer_instance
  refine ⟨_, rfl, by decide +kernel, by rw [sizeLine_eq]; omega, ?_⟩
  rw [sheet_split s0 s1 hr hc, List.map_cons]
  infer_instance
  refine ix_lst (atI_nat (n := 0) rfl) ?_
  infer_instance
  refine ⟨_, rfl, by decide +kernel, by rw [sizeLine_eq]; have := (ringRow_len hw hr).1; omega, ?_⟩
  rw [ringRow_split hw hr]
  infer_instance
  refine ne_strA ?_
  rw [decide_eq_true rfl]
  infer_instance
  intro c hcn
  refine lc_pure (fun _ => true) (fun d => match d with | .int 1 => .int size | .int 2 => .int r.wide | .int 4 => .int r.write | .int 5 => .int r.read | d => d) hcn (by rw [sizeLine_eq]; decide) (fun _ => rfl) (fun y hy acc hz nx hyes _ => ?_) ?_
  · simp only [List.mem_cons, List.not_mem_nil, or_false] at hy
    rcases hy with rfl | rfl | rfl | rfl
    · infer_instance
      refine ⟨_, rfl, by have := num_len hw.p.1 hw.p.2; omega, ?_⟩
      rw [num_wnI hw.p.1 hw.p.2]
      exact acc_put hz (hyes rfl)
    · infer_instance
      refine ⟨_, rfl, by have := num_len hw.w.1 hw.w.2; omega, ?_⟩
      rw [num_wnI hw.w.1 hw.w.2]
      exact acc_put hz (hyes rfl)
    · infer_instance
      refine ⟨_, rfl, by have := num_len hw.a.1 hw.a.2; omega, ?_⟩
      rw [num_wnI hw.a.1 hw.a.2]
      exact acc_put hz (hyes rfl)
    · infer_instance
      refine ⟨_, rfl, by have := num_len hw.b.1 hw.b.2; omega, ?_⟩
      rw [num_wnI hw.b.1 hw.b.2]
      exact acc_put hz (hyes rfl)
  · infer_instance
    refine slf_lst (n := 1) ?_
    infer_instance
    intro c2 hc2
    have hdrop : List.drop 1 (D.str (ringRow size r) :: List.map D.str (List.map hostRow hs)) = (hs.map hostRow).map D.str := rfl
    rw [hdrop]
    have hf := hc.few
    refine lc_lst (fun i M' => M' c2 = some (.ls ((hs.take i).map hostD)) ∧ Kept M M') ?_ ?_ _ ⟨mset_same, Kept.new hc2⟩
    · rintro M' ⟨hC, hK⟩
      rw [List.length_map, List.length_map, List.take_length] at hC
      refine ⟨rfl, _, hC, ?_⟩
      infer_instance
      refine ⟨_, _, rfl, rfl, ?_⟩
      infer_instance
      have hK2 := hK.del hc2
      generalize mdel M' c2 = M2 at *
      intro c3 hc3
      refine ⟨c3, size, r, hs, rfl, mset_same, s0, s1, hr, hc, rfl, fieldsD size r hs, ?_, ?_⟩
      · rw [mset_mset, mset_same]
      · rw [mset_mset]
        exact h _ (hK2.trans ((Kept.new hc3).del hc3))
    · rintro i x M' hx ⟨hC, hK⟩ nx hnx
      refine ⟨rfl, ?_⟩
      rw [List.map_map, List.getElem?_map] at hx
      obtain ⟨o, ho, rfl⟩ := omap hx
      have hi := (List.getElem?_eq_some_iff.mp ho).1
      infer_instance
      refine ⟨size, o, rfl, s1, crew_hostT hc (List.mem_of_getElem? ho), fun M3 hK3 => ?_⟩
      refine ⟨_, hK3 c2 _ hC, by rw [List.length_map, List.length_take, sizeLine_eq]; omega, hnx _ ⟨?_, (hK.trans hK3).put hc2⟩⟩
      rw [mset_same, List.take_succ, ho, List.map_append]
      rfl
theorem log_ok {i : Int} (h0 : 0 ≤ i) (h1 : i < 10 ^ 19) : i.natAbs.log2 < 1920 := by
  obtain ⟨n, rfl⟩ := Int.eq_ofNat_of_zero_le h0
  have h2 : n < 2 ^ 64 := by omega
  have : (n : Int).natAbs = n := by omega
  rw [this]
  by_cases hn : n = 0
  · subst hn; decide
  · have := (Nat.log2_lt hn).mpr h2
    omega
theorem strI_num {M : Mem} {q : QD} {i : Int} (h0 : 0 ≤ i) (h1 : i < 10 ^ 19) (w : q (.str (numS i)) M) : rdStrI [.int i] M q := ⟨log_ok h0 h1, w⟩
theorem kp_sheet (C : Addr) : Keeps N_sheet 1 (sd_sheet C) (db_sheet C) := by
  rintro ds M q ex hl ⟨size, r, hs, rfl, s0, s1, hr, hc, h⟩
  show db_sheet C _ [some (.lst (frameL size r hs)), none, none, none, none, none, none, none, none, none, none, none, none] M
  unfold db_sheet
  have hw := rowOk_of s0 s1 hr
  have hf := hc.few
  ac_rfl
  refine strI_num hw.p.1 hw.p.2 ?_
  ac_rfl
  refine strI_num hw.w.1 hw.w.2 ?_
  ac_rfl
  refine strI_num hw.a.1 hw.a.2 ?_
  ac_rfl
  refine strI_num hw.b.1 hw.b.2 ?_
  ac_rfl
  refine ⟨_, (["ring", numS size, numS r.wide, r.spread, numS r.write, numS r.read, r.pend] : List Str), rfl, rfl, by have := (ringRow_len hw hr).2; omega, ?_⟩
  ac_rfl
  intro c hcn
  ac_rfl
  refine for_lst (fun i env M' => ∃ (w9 w10 w11 w12 : Option D), env = [some (.lst (frameL size r hs)), some (.int size), some (.int r.wide), some (.str r.spread), some (.int r.write), some (.int r.read), some (.str r.pend), some (crewD hs), some (.cel c), w9, w10, w11, w12] ∧ M' c = some (.ls ((ringRow size r :: (hs.take i).map hostRow).map D.str)) ∧ Kept M M') ?_ ?_ _ _ ⟨_, _, _, _, rfl, mset_same, Kept.new hcn⟩
  · rintro env M' ⟨w9, w10, w11, w12, rfl, hC, hK⟩
    rw [List.length_map, List.take_length] at hC
    refine ⟨rfl, ?_⟩
    ac_rfl
    refine ⟨_, ringRow size r :: hs.map hostRow, celL_of hC, strs_map _, by have := (sheet_len s0 s1 hr hc).2; omega, ?_⟩
    exact h M' hK
  · rintro i x env M' hx ⟨w9, w10, w11, w12, rfl, hC, hK⟩ nx hnx
    refine ⟨rfl, ?_⟩
    rw [List.getElem?_map] at hx
    obtain ⟨o, ho, rfl⟩ := omap hx
    have hi := (List.getElem?_eq_some_iff.mp ho).1
    have hT := crew_hostT hc (List.mem_of_getElem? ho)
    ac_rfl
    refine ⟨c, _, rfl, hC, ?_⟩
    ac_rfl
    intro c2 hc2
    have hcc : c2 ≠ c := fun e => by rw [e, hC] at hc2; cases hc2
    have h16 := hT.marks.few
    refine lc_pure (fun _ => true) (fun d => match d with | .int i => .str (numS i) | d => d) hc2 (by rw [List.length_map, sizeLine_eq]; omega) (fun _ => rfl) (fun y hy acc hz nx2 hyes _ => ?_) ?_
    · obtain ⟨m, hm, rfl⟩ := List.mem_map.mp hy
      have hn := marks_num hT.marks s1 hm
      ac_rfl
      refine strI_num hn.1 hn.2 ?_
      exact acc_put hz (hyes rfl)
    · have e : (((o.marks.map D.int).filter fun _ => true).map fun d => match d with | .int i => .str (numS i) | d => d) = (o.marks.map numS).map D.str := by
        rw [List.filter_eq_self.mpr fun _ _ => rfl, List.map_map, List.map_map]
        rfl
      rw [e]
      refine add_lst rfl rfl (by rw [List.length_map, List.length_map, sizeLine_eq]; simp only [List.length_cons, List.length_nil]; omega) ?_
      refine ⟨_, (["host", o.name, o.rack] : List Str) ++ o.marks.map numS, rfl, (by have := DL.strs_map (((["host", o.name, o.rack] : List Str)) ++ o.marks.map numS); rw [List.map_append] at this; exact this), by have := (hostRow_len hT s1).2; omega, ?_⟩
      ac_rfl
      refine ⟨_, _, rfl, hC, by rw [List.length_map, List.length_cons, List.length_map, List.length_take, sizeLine_eq]; omega, hnx _ _ ⟨_, _, _, _, rfl, ?_, hK.put hcn⟩⟩
      rw [mset_same, List.take_succ, ho, List.map_append, ← List.cons_append, List.map_append]
      rfl
end R
set_option maxRecDepth 100000
set_option maxHeartbeats 1000000
namespace R
open PySem PySem.Spec PyProof.Rows L2 DL
local macro_rules | `(tactic| bv_omega) => `(tactic| first | assumption | exact mset_same)
local macro_rules | `(tactic| symm) => `(tactic| first
  | ((with_reducible show ∃ _, _ = _ ∧ _); refine ⟨_, rfl, ?_⟩)
  | ((with_reducible show _ = _ ∧ _); refine ⟨rfl, ?_⟩)
  | ((with_reducible show ∃ _ _, _ = _ ∧ _ = _ ∧ _); refine ⟨_, _, rfl, rfl, ?_⟩)
  | ((with_reducible show ∃ _ _, _ = _ ∧ _); refine ⟨_, _, rfl, ?_⟩)
  | ((with_reducible show ∃ _ _ _, _ = _ ∧ _); refine ⟨_, _, _, rfl, ?_⟩)
  | ((with_reducible show (_ ≤ _ ∧ _) ∧ _); refine ⟨by omega, ?_⟩)
  | with_reducible refine add_int ?_ | with_reducible refine sub_int ?_
  | with_reducible refine lt_int ?_ | with_reducible refine le_int ?_ | with_reducible refine gt_int ?_ | with_reducible refine ge_int ?_
  | with_reducible refine int_int ?_
  | with_reducible refine eq_int ?_ | with_reducible refine ne_int ?_
  | with_reducible refine len_tup ?_ | with_reducible refine len_lst ?_
  | ((with_reducible show rdIx (.cel _) (.int _) _ _); refine ix_cel (by bv_omega) (by rfl) ?_)
  | ((with_reducible show rdIx (.lst _) (.int _) _ _); refine ix_lst (by rfl) ?_)
  | ((with_reducible show rdIx (.tup _) (.int _) _ _); refine ix_tup (by rfl) ?_)
  | ((with_reducible show rdLen [.cel _] _ _); refine len_cel (by bv_omega) ?_)
  | ((with_reducible show rdMul (.int _) (.int _) _ _); first | refine mul_l (by decide) (by decide) ?_ | refine mul_r (by decide) (by decide) ?_ | refine mul_l (by omega) (by omega) ?_ | refine mul_r (by omega) (by omega) ?_)
  | ((with_reducible show rdDiv (.int _) (.int _) _ _); refine div_int (by first | decide | assumption | omega) (by first | decide | assumption | omega) ?_)
  | ((with_reducible show rdDivmod [.int _, .int _] _ _); refine dm_int (by first | decide | assumption | omega) (by first | decide | assumption | omega) ?_)
  | ((with_reducible show @ite _ (_ = true) _ _ _); first | refine ifYes (by first | with_reducible rfl | exact Bool.not_false | assumption) ?_ | refine ifNo (by first | with_reducible rfl | exact Bool.not_true | assumption) ?_)
  | ((with_reducible show ∃ _, _ ∧ _); refine ⟨_, celL_of (by bv_omega), ?_⟩)
  | ((with_reducible show ∃ _ _ _ _, _ ∧ _ ∧ _ ∧ _ ∧ _); refine ⟨_, _, _, _, rfl, rfl, by bv_omega, by rfl, ?_⟩)
  | ((with_reducible show (_ : Nat) ≤ sizeLine ∧ _); refine ⟨by rw [sizeLine_eq]; exact Nat.le_of_ble_eq_true rfl, ?_⟩))
local macro_rules | `(tactic| infer_instance) => `(tactic| ((repeat symm); try dsimp only))
local macro_rules | `(tactic| ac_rfl) => `(tactic| ((repeat (first | symm | ((with_reducible show rdMod (.int _) (.int _) _ _); refine mod_any (by first | decide | assumption | omega) ?_; intro _ _ _))); try dsimp only))
theorem lk_way {size : Int} {r : Rule} {hs : List Host} : (fieldsD size r hs).lookup ("_way" : Str) = none := by rfl
theorem kp_Ring_points (C : Addr) : Keeps N_Ring_points 1 (sd_Ring_points C) (db_Ring_points C) := by
  rintro ds M q ex hl ⟨size, r, hs, rfl, h⟩
  show db_Ring_points C _ [some (ringD C size r hs)] M
  unfold db_Ring_points
  infer_instance
  refine fld_ring lk_points ?_
  exact h
theorem kp_Ring_factor (C : Addr) : Keeps N_Ring_factor 1 (sd_Ring_factor C) (db_Ring_factor C) := by
  rintro ds M q ex hl ⟨size, r, hs, rfl, h⟩
  show db_Ring_factor C _ [some (ringD C size r hs)] M
  unfold db_Ring_factor
  infer_instance
  refine fld_ring lk_factor ?_
  exact h
theorem kp_Ring_spread (C : Addr) : Keeps N_Ring_spread 1 (sd_Ring_spread C) (db_Ring_spread C) := by
  rintro ds M q ex hl ⟨size, r, hs, rfl, h⟩
  show db_Ring_spread C _ [some (ringD C size r hs)] M
  unfold db_Ring_spread
  infer_instance
  refine fld_ring lk_spread ?_
  exact h
theorem kp_Ring_hosts (C : Addr) : Keeps N_Ring_hosts 1 (sd_Ring_hosts C) (db_Ring_hosts C) := by
  rintro ds M q ex hl ⟨size, r, hs, rfl, h⟩
  show db_Ring_hosts C _ [some (ringD C size r hs)] M
  unfold db_Ring_hosts
  infer_instance
  refine fld_ring lk_hosts ?_
  exact h
theorem kp_check_point (C : Addr) : Keeps N_check_point 2 (sd_check_point C) (db_check_point C) := by
  rintro ds M q ex hl ⟨size, r, hs, p, rfl, p0, p1, h⟩
  show db_check_point C _ [some (ringD C size r hs), some (.int p)] M
  unfold db_check_point
  infer_instance
  refine ⟨_, fs_ring, size, r, hs, rfl, ?_⟩
  infer_instance
  refine ⟨p, 0, size - 1, rfl, ?_⟩
  rw [decide_eq_true (show 0 ≤ p ∧ p ≤ size - 1 by omega)]
  infer_instance
  exact h
theorem mod_inj {size p a b : Int} (ha : 0 ≤ a ∧ a < size) (hb : 0 ≤ b ∧ b < size) (e : (a - p) % size = (b - p) % size) : a = b := by
  have e1 : (a - p - (b - p)) % size = 0 := by rw [Int.sub_emod, e, Int.sub_self, Int.zero_emod]
  have e2 : a - p - (b - p) = a - b := by omega
  rw [e2] at e1
  obtain ⟨k, hk⟩ := Int.dvd_of_emod_eq_zero e1
  have h1 : -size < size * k := by omega
  have h2 : size * k < size := by omega
  have hs : 0 < size := by omega
  have k0 : k = 0 := by
    rcases Int.lt_trichotomy k 0 with h | h | h
    · exfalso
      have : size * k ≤ size * (-1) := Int.mul_le_mul_of_nonneg_left (by omega) (by omega)
      omega
    · exact h
    · exfalso
      have : size * 1 ≤ size * k := Int.mul_le_mul_of_nonneg_left (by omega) (by omega)
      omega
  rw [k0, Int.mul_zero] at hk
  omega
theorem way_apart {size p : Int} {hs : List Host} (hc : CrewOk size hs) {o o' : Host} (ho : o ∈ hs) (ho' : o' ∈ hs) {m : Int} (h : IsWay size p o.marks m) (h' : IsWay size p o'.marks m) : o = o' := by
  obtain ⟨a, ha, ea⟩ := List.mem_map.mp h.1
  obtain ⟨b, hb, eb⟩ := List.mem_map.mp h'.1
  have : a = b := mod_inj ((crew_marks hc o ho).inn a ha) ((crew_marks hc o' ho').inn b hb) (ea.trans eb.symm)
  subst this
  exact crew_apart hc ho ho' ha hb
theorem kp_Ring_walk (C : Addr) : Keeps N_Ring_walk 2 (sd_Ring_walk C) (db_Ring_walk C) := by
  rintro ds M q ex hl ⟨size, r, hs, p, rfl, hc, p0, p1, h⟩
  show db_Ring_walk C _ [some (ringD C size r hs), some (.int p), none, none, none, none] M
  unfold db_Ring_walk
  infer_instance
  refine ⟨size, r, hs, p, rfl, p0, p1, ?_⟩
  infer_instance
  refine fld_ring lk_hosts ?_
  infer_instance
  intro c hcn
  refine lc_lst (fun i M' => ∃ ws : List (Int × Str), M' = mset M c (.ls (ws.map DL.pairD)) ∧ ws.map (·.2) = (hs.take i).map (·.name) ∧ ∀ a ∈ ws, ∃ h ∈ hs, h.name = a.2 ∧ IsWay size p h.marks a.1) ?_ ?_ _ ⟨[], rfl, rfl, fun a ha => by simp at ha⟩
  · rintro M' ⟨ws, rfl, hw, ha⟩
    rw [List.length_map, List.take_length] at hw
    refine ⟨rfl, _, mset_same, ?_⟩
    rw [mdel_mset hcn]
    infer_instance
    refine ⟨_, _, ws, rfl, rfl, pairsD_map ws, fun a ma b mb e => ?_, fun ps' hp hs' => ?_⟩
    · obtain ⟨o, mo, eo, wo⟩ := ha a ma
      obtain ⟨o', mo', eo', wo'⟩ := ha b mb
      rw [e] at wo
      have := way_apart hc mo mo' wo wo'
      rw [← eo, ← eo', this]
    · infer_instance
      intro c2 hc2
      have hlen : ps'.length ≤ 12 := by
        rw [hp.length_eq]
        have := congrArg List.length hw
        rw [List.length_map, List.length_map] at this
        have := hc.few
        omega
      refine lc_pure (fun _ => true) (fun d => match d with | .tup [_, b] => b | d => d) hc2 (by rw [List.length_map, sizeLine_eq]; omega) (fun _ => rfl) (fun y hy acc hz nx hyes _ => ?_) ?_
      · obtain ⟨⟨a1, a2⟩, ma, rfl⟩ := List.mem_map.mp hy
        unfold DL.pairD at hyes ⊢
        infer_instance
        exact acc_put hz (hyes rfl)
      · have e : ((ps'.map DL.pairD).filter (fun _ => true)).map (fun d => match d with | .tup [_, b] => b | d => d) = (ps'.map (·.2)).map D.str := by
          rw [List.filter_eq_self.mpr (fun _ _ => rfl), List.map_map, List.map_map]; rfl
        rw [e]
        infer_instance
        refine ⟨_, _, rfl, rfl, ?_⟩
        refine h _ ⟨ps', hs', rfl, ?_, fun a m => ha a (hp.mem_iff.mp m)⟩
        have := hp.map (·.2)
        rw [hw] at this
        exact this
  · rintro i x M' hx ⟨ws, rfl, hw, ha⟩ nx hnx
    refine ⟨rfl, ?_⟩
    rw [List.getElem?_map] at hx
    obtain ⟨o, ho, rfl⟩ := omap hx
    have hi := (List.getElem?_eq_some_iff.mp ho).1
    have hmem := List.mem_of_getElem? ho
    have hm := crew_marks hc o hmem
    have h12 := hc.few
    have hwl : ws.length ≤ 12 := by
      have := congrArg List.length hw
      rw [List.length_map, List.length_map, List.length_take] at this
      omega
    infer_instance
    refine ⟨_, fs_ring, lk_way, ?_⟩
    infer_instance
    refine ⟨size, r, hs, p, o.marks, rfl, by omega, hm.ne, hm.few, fun m hm => ?_⟩
    infer_instance
    refine acc_put (by rw [List.length_map, sizeLine_eq]; omega) (hnx _ ⟨ws ++ [(m, o.name)], by rw [List.map_append]; rfl, ?_, fun a ma => ?_⟩)
    · rw [List.map_append, hw, List.take_succ, ho, List.map_append]
      rfl
    · rcases List.mem_append.mp ma with ma | ma
      · exact ha a ma
      · rw [List.mem_singleton.mp ma]; exact ⟨o, hmem, rfl, hm⟩
end R
set_option maxRecDepth 100000
set_option maxHeartbeats 1000000
namespace R
open PySem PySem.Spec PyProof.Rows L2 DL
local macro_rules | `(tactic| bv_omega) => `(tactic| first | assumption | exact mset_same)
local macro_rules | `(tactic| symm) => `(tactic| first
  | ((with_reducible show ∃ _, _ = _ ∧ _); refine ⟨_, rfl, ?_⟩)
  | ((with_reducible show _ = _ ∧ _); refine ⟨rfl, ?_⟩)
  | ((with_reducible show ∃ _ _, _ = _ ∧ _ = _ ∧ _); refine ⟨_, _, rfl, rfl, ?_⟩)
  | ((with_reducible show ∃ _ _, _ = _ ∧ _); refine ⟨_, _, rfl, ?_⟩)
  | ((with_reducible show ∃ _ _ _, _ = _ ∧ _); refine ⟨_, _, _, rfl, ?_⟩)
  | ((with_reducible show (_ ≤ _ ∧ _) ∧ _); refine ⟨by omega, ?_⟩)
  | with_reducible refine add_int ?_ | with_reducible refine sub_int ?_
  | with_reducible refine lt_int ?_ | with_reducible refine le_int ?_ | with_reducible refine gt_int ?_ | with_reducible refine ge_int ?_
  | with_reducible refine int_int ?_
  | with_reducible refine eq_int ?_ | with_reducible refine ne_int ?_
  | with_reducible refine len_tup ?_ | with_reducible refine len_lst ?_
  | ((with_reducible show rdIx (.cel _) (.int _) _ _); refine ix_cel (by bv_omega) (by rfl) ?_)
  | ((with_reducible show rdIx (.lst _) (.int _) _ _); refine ix_lst (by rfl) ?_)
  | ((with_reducible show rdIx (.tup _) (.int _) _ _); refine ix_tup (by rfl) ?_)
  | ((with_reducible show rdLen [.cel _] _ _); refine len_cel (by bv_omega) ?_)
  | ((with_reducible show rdMul (.int _) (.int _) _ _); first | refine mul_l (by decide) (by decide) ?_ | refine mul_r (by decide) (by decide) ?_ | refine mul_l (by omega) (by omega) ?_ | refine mul_r (by omega) (by omega) ?_)
  | ((with_reducible show rdDiv (.int _) (.int _) _ _); refine div_int (by first | decide | assumption | omega) (by first | decide | assumption | omega) ?_)
  | ((with_reducible show rdDivmod [.int _, .int _] _ _); refine dm_int (by first | decide | assumption | omega) (by first | decide | assumption | omega) ?_)
  | ((with_reducible show @ite _ (_ = true) _ _ _); first | refine ifYes (by first | with_reducible rfl | exact Bool.not_false | assumption) ?_ | refine ifNo (by first | with_reducible rfl | exact Bool.not_true | assumption) ?_)
  | ((with_reducible show ∃ _, _ ∧ _); refine ⟨_, celL_of (by bv_omega), ?_⟩)
  | ((with_reducible show ∃ _ _ _ _, _ ∧ _ ∧ _ ∧ _ ∧ _); refine ⟨_, _, _, _, rfl, rfl, by bv_omega, by rfl, ?_⟩)
  | ((with_reducible show (_ : Nat) ≤ sizeLine ∧ _); refine ⟨by rw [sizeLine_eq]; exact Nat.le_of_ble_eq_true rfl, ?_⟩))
local macro_rules | `(tactic| infer_instance) => `(tactic| ((repeat symm); try dsimp only))
local macro_rules | `(tactic| ac_rfl) => `(tactic| ((repeat (first | symm | ((with_reducible show rdMod (.int _) (.int _) _ _); refine mod_any (by first | decide | assumption | omega) ?_; intro _ _ _))); try dsimp only))
theorem kg_put {M : Mem} {k c : Addr} {g : Int} {x : Cel} (h : Kg M k g) (n : M c = none) : Kg (mset M c x) k g := by
  obtain ⟨a, b, d, h3, h⟩ := h
  exact ⟨a, b, d, by rw [mset_ne (fun e => by rw [e, n] at h3; cases h3)]; exact h3, h⟩
theorem kp_made (C : Addr) : Keeps N_made 2 (sd_made C) (db_made C) := by
  rintro ds M q ex hl ⟨k, g, size, r, hs, rfl, s0, s1, hr, hc, hK, hg, h⟩
  show db_made C _ [some (.cel k), some (.lst (frameL size r hs)), none, none, none, none, none, none, none, none] M
  unfold db_made
  infer_instance
  refine ⟨k, _, _, rfl, by decide, by decide, hK, by omega, fun v M1 v0 v1 hB1 hK1 => ?_⟩
  infer_instance
  have fin : ∀ M', Kept M1 M' → q (ringD C size r hs) M' := fun M' hK' => h M' (hB1.trans hK'.b) (kg_kept hK1 hK')
  refine ifD (fun h1 => ?_) (fun h1 => ?_)
  · infer_instance
    intro c hcn
    refine ⟨c, size, r, hs, rfl, mset_same, s0, s1, hr, hc, rfl, fieldsD size r hs, ?_, ?_⟩
    · rw [mset_mset, mset_same]
    · rw [mset_mset]
      exact fin _ ((Kept.new hcn).del hcn)
  · infer_instance
    refine ifD (fun h2 => ?_) (fun h2 => ?_)
    · infer_instance
      intro c hcn
      refine ⟨c, size, r, hs, rfl, mset_same, s0, s1, hr, hc, rfl, fieldsD size r hs, ?_, ?_⟩
      · rw [mset_mset, mset_same]
      · rw [mset_mset]
        exact fin _ ((Kept.new hcn).del hcn)
    · infer_instance
      refine ⟨size, r, hs, rfl, s0, s1, hr, hc, fun M2 hK2 => ?_⟩
      infer_instance
      exact ⟨size, r, hs, rfl, s0, s1, hr, hc, fun M3 hK3 => fin _ (hK2.trans hK3)⟩
theorem kp_width (C : Addr) : Keeps N_width 1 (sd_width C) (db_width C) := by
  rintro ds M q ex hl ⟨k, g, rfl, hK, hg, h⟩
  show db_width C _ [some (.cel k), none] M
  unfold db_width
  infer_instance
  refine ⟨k, _, _, rfl, by decide, by decide, hK, by omega, fun v M1 v0 v1 hB1 hK1 => ?_⟩
  infer_instance
  refine ifD (fun h1 => ?_) (fun h1 => ?_)
  · infer_instance
    refine ⟨k, _, _, rfl, by decide, by decide, hK1, by omega, fun v2 M2 v20 v21 hB2 hK2 => ?_⟩
    infer_instance
    exact h _ M2 (by omega) (by omega) (hB1.trans hB2) (kg_le hK2 (by omega))
  · infer_instance
    refine ifD (fun h2 => ?_) (fun h2 => ?_)
    · infer_instance
      refine pow_int (by refine ⟨?_, ?_, ?_⟩ <;> decide) ?_
      infer_instance
      refine pow_int (by refine ⟨?_, ?_, ?_⟩ <;> decide) ?_
      infer_instance
      have e : v = 2 ∨ v = 3 := by omega
      rcases e with rfl | rfl
      · refine ix_lst (by rfl) ?_
        exact h _ M1 (by decide) (by decide) hB1 (kg_le hK1 (by omega))
      · refine ix_lst (by rfl) ?_
        exact h _ M1 (by decide) (by decide) hB1 (kg_le hK1 (by omega))
    · infer_instance
      refine ifD (fun h3 => ?_) (fun h3 => ?_)
      · infer_instance
        refine pow_int (by refine ⟨?_, ?_, ?_⟩ <;> decide) ?_
        infer_instance
        refine ⟨k, _, _, rfl, by decide, by decide, hK1, by omega, fun v2 M2 v20 v21 hB2 hK2 => ?_⟩
        infer_instance
        have : v2 < 100000 := v21
        exact h _ M2 (by omega) (by omega) (hB1.trans hB2) (kg_le hK2 (by omega))
      · infer_instance
        refine pow_int (by refine ⟨?_, ?_, ?_⟩ <;> decide) ?_
        infer_instance
        refine ⟨k, _, _, rfl, by decide, hK1, by omega, fun v2 M2 v20 v21 hB2 hK2 => ?_⟩
        infer_instance
        have : v2 < 1000000000000000000 := v21
        exact h _ M2 (by omega) (by omega) (hB1.trans hB2) (kg_le hK2 (by omega))
theorem kp_borders (C : Addr) : Keeps N_borders 1 (sd_borders C) (db_borders C) := by
  rintro ds M q ex hl ⟨size, hs, rfl, hc, h⟩
  show db_borders C _ [some (crewD hs), none, none, none, none] M
  unfold db_borders
  have hf := hc.few
  infer_instance
  refine for_lst (fun i env M' => M' = M ∧ ∃ (ms : List Int) (w2 w3 w4 : Option D), env = [some (crewD hs), some (.lst (ms.map D.int)), w2, w3, w4] ∧ ms = (hs.take i).flatMap (·.marks) ∧ ms.length ≤ 16 * i) ?_ ?_ _ _ ⟨rfl, [], _, _, _, rfl, rfl, Nat.zero_le _⟩
  · rintro env M' ⟨rfl, ms, w2, w3, w4, rfl, em, hml⟩
    rw [List.length_map, List.take_length] at em
    refine ⟨rfl, ?_⟩
    infer_instance
    refine ⟨_, _, ms, rfl, rfl, DL.ints_map ms, fun ns' hp hs' => ?_⟩
    exact h ns' _ (by rw [← em]; exact hp) hs' (Kept.refl _)
  · rintro i x env M' hx ⟨rfl, ms, w2, w3, w4, rfl, em, hml⟩ nx hnx
    refine ⟨rfl, ?_⟩
    rw [List.getElem?_map] at hx
    obtain ⟨o, ho, rfl⟩ := omap hx
    have hi := (List.getElem?_eq_some_iff.mp ho).1
    have h16 := (crew_marks hc o (List.mem_of_getElem? ho)).few
    infer_instance
    refine ⟨_, _, rfl, rfl, ?_⟩
    refine add_lst rfl rfl (by rw [List.length_map, List.length_map, sizeLine_eq]; omega) ?_
    infer_instance
    refine hnx _ _ ⟨rfl, ms ++ o.marks, _, _, _, by rw [List.map_append]; rfl, ?_, ?_⟩
    · rw [em, List.take_succ, ho, List.flatMap_append]
      simp
    · rw [List.length_append]; omega
theorem kp_far (C : Addr) : Keeps N_far 2 (sd_far C) (db_far C) := by
  rintro ds M q ex hl ⟨size, p, r, hs, rfl, s0, hc, h⟩
  show db_far C _ [some (.lst (frameL size r hs)), some (.int p), none, none, none, none, none, none] M
  unfold db_far
  have hf := hc.few
  infer_instance
  intro c hcn
  infer_instance
  refine for_lst (fun i env M' => ∃ (ws : List (Int × Str)) (w3 w4 w5 w6 w7 : Option D), M' = mset M c (.ls (ws.map DL.pairD)) ∧ env = [some (.lst (frameL size r hs)), some (.int p), some (.cel c), w3, w4, w5, w6, w7] ∧ ws.map (·.2) = (hs.take i).map (·.name) ∧ ∀ a ∈ ws, ∃ h ∈ hs, h.name = a.2 ∧ IsWay size p h.marks a.1) ?_ ?_ _ _ ⟨[], _, _, _, _, _, rfl, rfl, rfl, fun a ha => by simp at ha⟩
  · rintro env M' ⟨ws, w3, w4, w5, w6, w7, rfl, rfl, hw, ha⟩
    rw [List.length_map, List.take_length] at hw
    refine ⟨rfl, ?_⟩
    have hC : (mset M c (.ls (ws.map DL.pairD))) c = some (.ls (ws.map DL.pairD)) := mset_same
    have hK0 : Kept M (mset M c (.ls (ws.map DL.pairD))) := Kept.new hcn
    generalize mset M c (.ls (ws.map DL.pairD)) = M0 at *
    infer_instance
    refine ⟨_, _, ws, rfl, celL_of hC, pairsD_map ws, fun a ma b mb e => ?_, fun ps' hp hs' => ?_⟩
    · obtain ⟨o, mo, eo, wo⟩ := ha a ma
      obtain ⟨o', mo', eo', wo'⟩ := ha b mb
      rw [e] at wo
      have := way_apart hc mo mo' wo wo'
      rw [← eo, ← eo', this]
    · infer_instance
      intro c2 hc2
      have hlen : ps'.length ≤ 12 := by
        rw [hp.length_eq]
        have := congrArg List.length hw
        rw [List.length_map, List.length_map] at this
        omega
      refine lc_pure (fun _ => true) (fun d => match d with | .tup [_, b] => b | d => d) hc2 (by rw [List.length_map, sizeLine_eq]; omega) (fun _ => rfl) (fun y hy acc hz nx hyes _ => ?_) ?_
      · obtain ⟨⟨a1, a2⟩, ma, rfl⟩ := List.mem_map.mp hy
        unfold DL.pairD at hyes ⊢
        infer_instance
        exact acc_put hz (hyes rfl)
      · have e : ((ps'.map DL.pairD).filter (fun _ => true)).map (fun d => match d with | .tup [_, b] => b | d => d) = (ps'.map (·.2)).map D.str := by
          rw [List.filter_eq_self.mpr (fun _ _ => rfl), List.map_map, List.map_map]; rfl
        rw [e]
        refine h _ _ ⟨ps', hs', rfl, ?_, fun a m => ha a (hp.mem_iff.mp m)⟩ hK0
        have := hp.map (·.2)
        rw [hw] at this
        exact this
  · rintro i x env M' hx ⟨ws, w3, w4, w5, w6, w7, rfl, rfl, hw, ha⟩ nx hnx
    refine ⟨rfl, ?_⟩
    rw [List.getElem?_map] at hx
    obtain ⟨o, ho, rfl⟩ := omap hx
    have hi := (List.getElem?_eq_some_iff.mp ho).1
    have hmem := List.mem_of_getElem? ho
    have hm := crew_marks hc o hmem
    have hwl : ws.length ≤ 12 := by
      have := congrArg List.length hw
      rw [List.length_map, List.length_map, List.length_take] at this
      omega
    infer_instance
    refine ⟨c, _, rfl, mset_same, ?_⟩
    infer_instance
    intro c2 hc2
    have h16 := hm.few
    refine lc_pure (fun _ => true) (fun d => match d with | .int m => .int ((m - p) % size) | d => d) hc2 (by rw [List.length_map, sizeLine_eq]; omega) (fun _ => rfl) (fun y hy acc hz nx2 hyes _ => ?_) ?_
    · obtain ⟨m, hmm, rfl⟩ := List.mem_map.mp hy
      infer_instance
      refine mod_int s0 ?_
      exact acc_put hz (hyes rfl)
    · have e : (((o.marks.map D.int).filter fun _ => true).map fun d => match d with | .int m => .int ((m - p) % size) | d => d) = (o.marks.map fun m => (m - p) % size).map D.int := by
        rw [List.filter_eq_self.mpr fun _ _ => rfl, List.map_map, List.map_map]
        rfl
      rw [e]
      refine ⟨_, _, _, rfl, rfl, DL.ints_map _, by rw [List.length_map]; exact hm.ne, fun m m1 m2 => ?_⟩
      infer_instance
      refine ⟨_, _, rfl, mset_same, by rw [List.length_map, sizeLine_eq]; omega, hnx _ _ ⟨ws ++ [(m, o.name)], _, _, _, _, _, ?_, rfl, ?_, fun a ma => ?_⟩⟩
      · rw [mset_mset, List.map_append]; rfl
      · rw [List.map_append, hw, List.take_succ, ho, List.map_append]
        rfl
      · rcases List.mem_append.mp ma with ma | ma
        · exact ha a ma
        · rw [List.mem_singleton.mp ma]; exact ⟨o, hmem, rfl, m1, m2⟩
end R
set_option maxRecDepth 100000
set_option maxHeartbeats 1000000
namespace R
open PySem PySem.Spec PyProof.Rows L2 DL
local macro_rules | `(tactic| bv_omega) => `(tactic| first | assumption | exact mset_same)
local macro_rules | `(tactic| symm) => `(tactic| first
  | ((with_reducible show ∃ _, _ = _ ∧ _); refine ⟨_, rfl, ?_⟩)
  | ((with_reducible show _ = _ ∧ _); refine ⟨rfl, ?_⟩)
  | ((with_reducible show ∃ _ _, _ = _ ∧ _ = _ ∧ _); refine ⟨_, _, rfl, rfl, ?_⟩)
  | ((with_reducible show ∃ _ _, _ = _ ∧ _); refine ⟨_, _, rfl, ?_⟩)
  | ((with_reducible show ∃ _ _ _, _ = _ ∧ _); refine ⟨_, _, _, rfl, ?_⟩)
  | ((with_reducible show (_ ≤ _ ∧ _) ∧ _); refine ⟨by omega, ?_⟩)
  | with_reducible refine add_int ?_ | with_reducible refine sub_int ?_
  | with_reducible refine lt_int ?_ | with_reducible refine le_int ?_ | with_reducible refine gt_int ?_ | with_reducible refine ge_int ?_
  | with_reducible refine int_int ?_
  | with_reducible refine eq_int ?_ | with_reducible refine ne_int ?_
  | with_reducible refine len_tup ?_ | with_reducible refine len_lst ?_
  | ((with_reducible show rdIx (.cel _) (.int _) _ _); refine ix_cel (by bv_omega) (by rfl) ?_)
  | ((with_reducible show rdIx (.lst _) (.int _) _ _); refine ix_lst (by rfl) ?_)
  | ((with_reducible show rdIx (.tup _) (.int _) _ _); refine ix_tup (by rfl) ?_)
  | ((with_reducible show rdLen [.cel _] _ _); refine len_cel (by bv_omega) ?_)
  | ((with_reducible show rdMul (.int _) (.int _) _ _); first | refine mul_l (by decide) (by decide) ?_ | refine mul_r (by decide) (by decide) ?_ | refine mul_l (by omega) (by omega) ?_ | refine mul_r (by omega) (by omega) ?_)
  | ((with_reducible show rdDiv (.int _) (.int _) _ _); refine div_int (by first | decide | assumption | omega) (by first | decide | assumption | omega) ?_)
  | ((with_reducible show rdDivmod [.int _, .int _] _ _); refine dm_int (by first | decide | assumption | omega) (by first | decide | assumption | omega) ?_)
  | ((with_reducible show @ite _ (_ = true) _ _ _); first | refine ifYes (by first | with_reducible rfl | exact Bool.not_false | assumption) ?_ | refine ifNo (by first | with_reducible rfl | exact Bool.not_true | assumption) ?_)
  | ((with_reducible show ∃ _, _ ∧ _); refine ⟨_, celL_of (by bv_omega), ?_⟩)
  | ((with_reducible show ∃ _ _ _ _, _ ∧ _ ∧ _ ∧ _ ∧ _); refine ⟨_, _, _, _, rfl, rfl, by bv_omega, by rfl, ?_⟩)
  | ((with_reducible show (_ : Nat) ≤ sizeLine ∧ _); refine ⟨by rw [sizeLine_eq]; exact Nat.le_of_ble_eq_true rfl, ?_⟩))
local macro_rules | `(tactic| infer_instance) => `(tactic| ((repeat symm); try dsimp only))
local macro_rules | `(tactic| ac_rfl) => `(tactic| ((repeat (first | symm | ((with_reducible show rdMod (.int _) (.int _) _ _); refine mod_any (by first | decide | assumption | omega) ?_; intro _ _ _))); try dsimp only))
theorem getK_set {s : List (Key × D)} {k k' : Key} {v : D} : getK (setK s k v) k' = if k = k' then some v else getK s k' := by
  unfold setK
  by_cases ha : (s.any fun kv => decide (kv.1 = k)) = true
  · rw [if_pos ha]
    induction s with
    | nil => simp at ha
    | cons x xs ih =>
      obtain ⟨xk, xv⟩ := x
      rw [List.map_cons]
      by_cases e : xk = k
      · subst e
        rw [if_pos rfl]
        by_cases e2 : xk = k'
        · subst e2; rw [if_pos rfl]; simp [getK, List.find?_cons]
        · rw [if_neg e2]
          have h1 : ∀ (v : D) (r : List (Key × D)), getK ((xk, v) :: r) k' = getK r k' := fun v r => by simp [getK, List.find?_cons, e2]
          rw [h1, h1]
          by_cases hb : (xs.any fun kv => decide (kv.1 = xk)) = true
          · have := ih hb
            rw [if_neg e2] at this
            exact this
          · have : (xs.map fun kv => if kv.1 = xk then (kv.1, v) else kv) = xs := by
              conv => rhs; rw [← List.map_id xs]
              refine List.map_congr_left fun kv hkv => ?_
              have : ¬ kv.1 = xk := fun z => hb (List.any_eq_true.mpr ⟨kv, hkv, decide_eq_true z⟩)
              rw [if_neg this]; rfl
            rw [this]
      · rw [if_neg e]
        have hb : (xs.any fun kv => decide (kv.1 = k)) = true := by
          rw [List.any_cons, Bool.or_eq_true] at ha
          rcases ha with h | h
          · exact absurd (of_decide_eq_true h) e
          · exact h
        by_cases e2 : xk = k'
        · subst e2
          rw [if_neg (Ne.symm e)]
          simp [getK, List.find?_cons]
        · have h1 : ∀ (r : List (Key × D)), getK ((xk, xv) :: r) k' = getK r k' := fun r => by simp [getK, List.find?_cons, e2]
          rw [h1, h1]
          exact ih hb
  · rw [if_neg ha]
    have hn : getK s k = none := by
      unfold getK
      have : s.find? (fun kv => decide (kv.1 = k)) = none := by
        rw [List.find?_eq_none]
        intro x hx hd
        exact ha (List.any_eq_true.mpr ⟨x, hx, hd⟩)
      rw [this]; rfl
    unfold getK at hn ⊢
    rw [List.find?_append]
    by_cases e : k = k'
    · subst e
      rw [if_pos rfl]
      cases hh : s.find? (fun kv => decide (kv.1 = k)) with
      | none => simp [List.find?_cons]
      | some x => rw [hh] at hn; cases hn
    · rw [if_neg e]
      cases hh : s.find? (fun kv => decide (kv.1 = k')) with
      | none => simp [List.find?_cons, e]
      | some x => rfl
theorem setK_len {s : List (Key × D)} {k : Key} {v : D} : (setK s k v).length ≤ s.length + 1 := by
  unfold setK
  split
  · rw [List.length_map]; omega
  · rw [List.length_append, List.length_singleton]; omega
end R
set_option maxRecDepth 100000
set_option maxHeartbeats 1000000
namespace R
open PySem PySem.Spec PyProof.Rows L2 DL
local macro_rules | `(tactic| bv_omega) => `(tactic| first | assumption | exact mset_same)
local macro_rules | `(tactic| symm) => `(tactic| first
  | ((with_reducible show ∃ _, _ = _ ∧ _); refine ⟨_, rfl, ?_⟩)
  | ((with_reducible show _ = _ ∧ _); refine ⟨rfl, ?_⟩)
  | ((with_reducible show ∃ _ _, _ = _ ∧ _ = _ ∧ _); refine ⟨_, _, rfl, rfl, ?_⟩)
  | ((with_reducible show ∃ _ _, _ = _ ∧ _); refine ⟨_, _, rfl, ?_⟩)
  | ((with_reducible show ∃ _ _ _, _ = _ ∧ _); refine ⟨_, _, _, rfl, ?_⟩)
  | ((with_reducible show (_ ≤ _ ∧ _) ∧ _); refine ⟨by omega, ?_⟩)
  | with_reducible refine add_int ?_ | with_reducible refine sub_int ?_
  | with_reducible refine lt_int ?_ | with_reducible refine le_int ?_ | with_reducible refine gt_int ?_ | with_reducible refine ge_int ?_
  | with_reducible refine int_int ?_
  | with_reducible refine eq_int ?_ | with_reducible refine ne_int ?_
  | with_reducible refine len_tup ?_ | with_reducible refine len_lst ?_
  | ((with_reducible show rdIx (.cel _) (.int _) _ _); refine ix_cel (by bv_omega) (by rfl) ?_)
  | ((with_reducible show rdIx (.lst _) (.int _) _ _); refine ix_lst (by rfl) ?_)
  | ((with_reducible show rdIx (.tup _) (.int _) _ _); refine ix_tup (by rfl) ?_)
  | ((with_reducible show rdLen [.cel _] _ _); refine len_cel (by bv_omega) ?_)
  | ((with_reducible show rdMul (.int _) (.int _) _ _); first | refine mul_l (by decide) (by decide) ?_ | refine mul_r (by decide) (by decide) ?_ | refine mul_l (by omega) (by omega) ?_ | refine mul_r (by omega) (by omega) ?_)
  | ((with_reducible show rdDiv (.int _) (.int _) _ _); refine div_int (by first | decide | assumption | omega) (by first | decide | assumption | omega) ?_)
  | ((with_reducible show rdDivmod [.int _, .int _] _ _); refine dm_int (by first | decide | assumption | omega) (by first | decide | assumption | omega) ?_)
  | ((with_reducible show @ite _ (_ = true) _ _ _); first | refine ifYes (by first | with_reducible rfl | exact Bool.not_false | assumption) ?_ | refine ifNo (by first | with_reducible rfl | exact Bool.not_true | assumption) ?_)
  | ((with_reducible show ∃ _, _ ∧ _); refine ⟨_, celL_of (by bv_omega), ?_⟩)
  | ((with_reducible show ∃ _ _ _ _, _ ∧ _ ∧ _ ∧ _ ∧ _); refine ⟨_, _, _, _, rfl, rfl, by bv_omega, by rfl, ?_⟩)
  | ((with_reducible show (_ : Nat) ≤ sizeLine ∧ _); refine ⟨by rw [sizeLine_eq]; exact Nat.le_of_ble_eq_true rfl, ?_⟩))
local macro_rules | `(tactic| infer_instance) => `(tactic| ((repeat symm); try dsimp only))
local macro_rules | `(tactic| ac_rfl) => `(tactic| ((repeat (first | symm | ((with_reducible show rdMod (.int _) (.int _) _ _); refine mod_any (by first | decide | assumption | omega) ?_; intro _ _ _))); try dsimp only))
theorem crew_nodup {size : Int} {hs : List Host} (h : CrewOk size hs) : (hs.map (·.name)).Nodup := by
  unfold List.Nodup
  rw [List.pairwise_map, List.pairwise_iff_getElem]
  intro i j hi hj hij e
  exact (h.each j _ (List.getElem?_eq_getElem hj)).fresh _ (mem_take (List.getElem?_eq_getElem hi) hij) e
theorem merge_no {k : Key} : ∀ {kvs acc : List (Key × D)}, k ∉ kvs.map (·.1) → getK (mergeD acc kvs) k = getK acc k
  | [], _, _ => rfl
  | (k', v) :: r, acc, h => by
    show getK (mergeD (setK acc k' v) r) k = _
    rw [merge_no fun z => h (List.mem_cons_of_mem _ z), getK_set, if_neg]
    rintro rfl
    exact h List.mem_cons_self
theorem merge_at {k : Key} {v : D} : ∀ {kvs acc : List (Key × D)}, (kvs.map (·.1)).Nodup → (k, v) ∈ kvs → getK (mergeD acc kvs) k = some v
  | [], _, _, h => by simp at h
  | (k', v') :: r, acc, hn, h => by
    obtain ⟨h1, h2⟩ := List.nodup_cons.mp hn
    show getK (mergeD (setK acc k' v') r) k = _
    rcases List.mem_cons.mp h with e | h
    · cases e
      rw [merge_no h1, getK_set, if_pos rfl]
    · exact merge_at h2 h
def bayL (hs : List Host) : List (Key × D) := hs.map fun o => (Sum.inr o.name, D.str o.rack)
theorem bays_at {size : Int} {hs : List Host} (hc : CrewOk size hs) {x : Str} (hx : x ∈ hs.map (·.name)) : getK (mergeD [] (bayL hs)) (.inr x) = some (.str (rackOf hs x)) := by
  obtain ⟨o, ho, rfl⟩ := List.mem_map.mp hx
  refine merge_at ?_ ?_
  · unfold bayL
    rw [List.map_map]
    have := crew_nodup hc
    unfold List.Nodup at this ⊢
    rw [List.pairwise_map] at this ⊢
    exact this.imp fun {a b} hab e => hab (Sum.inr.inj e)
  · rw [crew_rack hc ho]
    exact List.mem_map.mpr ⟨o, ho, rfl⟩
theorem firsts_in {hs : List Host} {ns : List Str} : ∀ n, (firstsN hs ns n).length ≤ n ∧ ∀ x ∈ firstsN hs ns n, x ∈ ns
  | 0 => ⟨Nat.le_refl _, fun x hx => by simp [firstsN] at hx⟩
  | n + 1 => by
    have ih := firsts_in (hs := hs) (ns := ns) n
    unfold firstsN
    split
    · rename_i x e
      split
      · exact ⟨by omega, ih.2⟩
      · refine ⟨by rw [List.length_append, List.length_singleton]; omega, fun y hy => ?_⟩
        rcases List.mem_append.mp hy with hy | hy
        · exact ih.2 y hy
        · rw [List.mem_singleton.mp hy]; exact List.mem_of_getElem? e
    · exact ⟨by omega, ih.2⟩
theorem kp_keep (C : Addr) : Keeps N_keep 2 (sd_keep C) (db_keep C) := by
  rintro ds M q ex hl ⟨size, r, hs, ns, rfl, hc, hr, h12, hin, h⟩
  show db_keep C _ [some (.lst (frameL size r hs)), some (strsL ns), none, none, none, none, none, none, none] M
  unfold db_keep frameL
  have hsp : PyData.strOk r.spread = true := by
    rcases hr.s with e | e <;> rw [e] <;> decide +kernel
  obtain ⟨w, hwd⟩ := Int.eq_ofNat_of_zero_le (show 0 ≤ r.wide by have := hr.w; omega)
  infer_instance
  refine eq_str hsp (by decide +kernel) ?_
  infer_instance
  refine ifD (fun e => ?_) (fun e => ?_)
  · infer_instance
    rw [hwd]
    refine sl_lst (n := w) ?_
    rw [← List.map_take]
    have e2 : keepL r hs ns = ns.take w := by unfold keepL; rw [if_pos e, hwd]; rfl
    rw [← e2]
    exact h M (Kept.refl M)
  · infer_instance
    intro c hcn
    have hh12 := hc.few
    refine lc_pure (fun _ => true) (fun d => match d with | .tup [a, b, _] => .tup [a, b] | d => d) hcn (by rw [List.length_map, sizeLine_eq]; omega) (fun _ => rfl) (fun y hy acc hz nx hyes _ => ?_) ?_
    · obtain ⟨o, ho, rfl⟩ := List.mem_map.mp hy
      infer_instance
      exact acc_put hz (hyes rfl)
    have ed : ((hs.map hostD).filter (fun _ => true)).map (fun d => match d with | .tup [a, b, _] => .tup [a, b] | d => d) = hs.map fun o => D.tup [.str o.name, .str o.rack] := by
      rw [List.filter_eq_self.mpr (fun _ _ => rfl), List.map_map]; rfl
    rw [ed]
    have ek : ∀ l : List Host, kvsD (l.map fun o => D.tup [.str o.name, .str o.rack]) = some (bayL l) := by
      intro l
      induction l with
      | nil => rfl
      | cons o l ih =>
        show (match keyD (.str o.name), kvsD (l.map fun o => D.tup [.str o.name, .str o.rack]) with | some k, some r => some ((k, D.str o.rack) :: r) | _, _ => none) = _
        rw [ih]; rfl
    infer_instance
    refine ⟨_, _, _, rfl, rfl, ek hs, fun a han => ?_⟩
    infer_instance
    intro f hf
    have hfa : f ≠ a := fun e => by rw [e, mset_same] at hf; cases hf
    have mf : M f = none := by rw [mset_ne hfa] at hf; exact hf
    have hml : (ns.map D.str).length = ns.length := List.length_map _
    infer_instance
    refine for_rng (n := ((ns.map D.str).length : Int).toNat) (fun i env M' => ∃ w4 : Option D, env = [some (.lst [.int size, .int r.wide, .str r.spread, .int r.write, .int r.read, .str r.pend, crewD hs]), some (strsL ns), some (.cel a), some (.cel f), w4, none, none, none, none] ∧ M' a = some (.dc (mergeD [] (bayL hs))) ∧ M' f = some (.ls ((firstsN hs ns i).map D.str)) ∧ Kept M M') ?_ ?_ _ _
      ⟨none, rfl, by rw [mset_ne (Ne.symm hfa), mset_same], mset_same, (Kept.new han).put mf⟩
    · rintro env M' ⟨w4, rfl, hA, hF, hK⟩
      refine ⟨trivial, ?_⟩
      have en : ((ns.map D.str).length : Int).toNat = ns.length := by rw [List.length_map]; omega
      rw [en] at hF
      infer_instance
      rw [hwd]
      refine sl_cel (n := w) hF ?_
      rw [← List.map_take]
      infer_instance
      intro c2 hc2
      refine lc_pure (fun d => match d with | .str x => !decide (x ∈ (firstsN hs ns ns.length).take w) | _ => false) (fun d => d) hc2 (by rw [List.length_map, sizeLine_eq]; omega) (fun _ => rfl) (fun y hy acc hz nx hyes hno => ?_) ?_
      · obtain ⟨x, hx, rfl⟩ := List.mem_map.mp hy
        infer_instance
        refine ni_str (xs := (firstsN hs ns ns.length).take w) rfl ?_
        infer_instance
        refine ifB (fun hb => ?_) (fun hb => ?_)
        · infer_instance
          exact acc_put hz (hyes hb)
        · exact hno hb
      · rw [List.filter_map, List.map_id']
        have hfl := (firsts_in (hs := hs) (ns := ns) ns.length).1
        refine add_lst rfl rfl (by rw [List.length_map, List.length_map, List.length_take]; have := List.length_filter_le ((fun d => match d with | D.str x => !decide (x ∈ (firstsN hs ns ns.length).take w) | _ => false) ∘ D.str) ns; rw [sizeLine_eq]; omega) ?_
        infer_instance
        refine sl_lst (n := w) ?_
        rw [← List.map_append, ← List.map_take]
        have e2 : keepL r hs ns = ((firstsN hs ns ns.length).take w ++ ns.filter ((fun d => match d with | D.str x => !decide (x ∈ (firstsN hs ns ns.length).take w) | _ => false) ∘ D.str)).take w := by
          unfold keepL; rw [if_neg e, hwd]; rfl
        rw [← e2]
        exact h M' hK
    · rintro i env M' hi ⟨w4, rfl, hA, hF, hK⟩ nx hnx
      refine ⟨trivial, ?_⟩
      rw [List.length_map] at hi
      have hi' : i < ns.length := by omega
      have e0 : (0 : Int) + (i : Nat) = (i : Nat) := by omega
      obtain ⟨x, hx⟩ : ∃ x, ns[i]? = some x := ⟨_, List.getElem?_eq_getElem hi'⟩
      have hxm := List.mem_of_getElem? hx
      have step : firstsN hs ns (i + 1) = if rackOf hs x ∈ (ns.take i).map (rackOf hs) then firstsN hs ns i else firstsN hs ns i ++ [x] := by
        show (match ns[i]? with | some x => _ | none => _) = _
        rw [hx]
      infer_instance
      refine ix_lst (d := .str x) (by rw [e0]; exact DL.atI_nat (by rw [List.getElem?_map, hx]; rfl)) ?_
      infer_instance
      refine ⟨a, _, .inr x, _, rfl, hA, rfl, bays_at hc (hin x hxm), ?_⟩
      infer_instance
      rw [e0]
      refine sl_lst (n := i) ?_
      rw [← List.map_take]
      infer_instance
      intro c2 hc2
      have hca : c2 ≠ a := fun e => by rw [e, hA] at hc2; cases hc2
      refine lc_pure (fun _ => true) (fun d => match d with | .str x => .str (rackOf hs x) | d => d) hc2 (by rw [List.length_map, List.length_take, sizeLine_eq]; omega) (fun _ => rfl) (fun y hy acc hz nx2 hyes _ => ?_) ?_
      · obtain ⟨z, hz2, rfl⟩ := List.mem_map.mp hy
        infer_instance
        refine ⟨a, _, .inr z, _, rfl, by rw [mset_ne (Ne.symm hca)]; exact hA, rfl, bays_at hc (hin z (List.mem_of_mem_take hz2)), ?_⟩
        exact acc_put hz (hyes rfl)
      · have er : (((ns.take i).map D.str).filter (fun _ => true)).map (fun d => match d with | .str x => .str (rackOf hs x) | d => d) = ((ns.take i).map (rackOf hs)).map D.str := by
          rw [List.filter_eq_self.mpr (fun _ _ => rfl), List.map_map, List.map_map]; rfl
        rw [er]
        refine ni_str (xs := (ns.take i).map (rackOf hs)) rfl ?_
        infer_instance
        refine ifB (fun hb => ?_) (fun hb => ?_)
        · infer_instance
          have hfl := (firsts_in (hs := hs) (ns := ns) i).1
          refine ⟨f, _, rfl, hF, ?_⟩
          infer_instance
          refine ix_lst (d := .str x) (by exact DL.atI_nat (by rw [List.getElem?_map, hx]; rfl)) ?_
          infer_instance
          refine ⟨_, _, rfl, hF, by rw [List.length_map, sizeLine_eq]; omega, hnx _ _ ⟨_, rfl, by rw [mset_ne (Ne.symm hfa)]; exact hA, ?_, hK.put mf⟩⟩
          have : ¬ rackOf hs x ∈ (ns.take i).map (rackOf hs) := by simpa using hb
          rw [mset_same, step, if_neg this, List.map_append]; rfl
        · have : rackOf hs x ∈ (ns.take i).map (rackOf hs) := by simpa using hb
          refine hnx _ _ ⟨_, rfl, hA, ?_, hK⟩
          rw [step, if_pos this]; exact hF
theorem kp_new_racks_first (C : Addr) : Keeps N_new_racks_first 2 (sd_new_racks_first C) (db_new_racks_first C) := by
  rintro ds M q ex hl ⟨size, r, hs, ns, rfl, hc, h12, hin, h⟩
  show db_new_racks_first C _ [some (ringD C size r hs), some (strsT ns), none, none, none, none, none, none, none] M
  unfold db_new_racks_first
  infer_instance
  refine ⟨_, fs_ring, size, r, hs, rfl, ?_⟩
  infer_instance
  intro cd hcd
  have hf := hc.few
  refine dc_lst (fun i M' => ∃ s : List (Key × D), M' = mset M cd (.dc s) ∧ s = mergeD [] (bayL (hs.take i)) ∧ s.length ≤ i) ?_ ?_ _ ⟨[], rfl, rfl, Nat.le_refl _⟩
  · rintro M' ⟨s, rfl, es, _⟩
    rw [List.length_map, List.take_length] at es
    refine ⟨rfl, ?_⟩
    have tab : ∀ x : Str, x ∈ ns → getK s (.inr x) = some (.str (rackOf hs x)) := fun x hx => by rw [es]; exact bays_at hc (hin x hx)
    have hcd' : (mset M cd (.dc s)) cd = some (.dc s) := mset_same
    have hK0 : Kept M (mset M cd (.dc s)) := Kept.new hcd
    generalize mset M cd (.dc s) = M0 at *
    infer_instance
    intro cr hcr
    infer_instance
    intro cf hcf
    infer_instance
    intro co hco
    have n1 : cf ≠ cr := fun e => by rw [e, mset_same] at hcf; cases hcf
    have n2 : co ≠ cf := fun e => by rw [e, mset_same] at hco; cases hco
    have n3 : co ≠ cr := fun e => by rw [e, mset_ne (Ne.symm n1), mset_same] at hco; cases hco
    have mcf : M0 cf = none := by rw [mset_ne n1] at hcf; exact hcf
    have mco : M0 co = none := by rw [mset_ne n2, mset_ne n3] at hco; exact hco
    infer_instance
    refine for_lst (fun i env M' => ∃ (seen fs os : List Str) (w6 w7 w8 : Option D), env = [some (ringD C size r hs), some (strsT ns), some (.cel cd), some (.cel cr), some (.cel cf), some (.cel co), w6, w7, w8] ∧
      M' cr = some (.ls (seen.map D.str)) ∧ M' cf = some (.ls (fs.map D.str)) ∧ M' co = some (.ls (os.map D.str)) ∧ splitR hs [] [] [] ns = splitR hs seen fs os (ns.drop i) ∧ seen.length ≤ i ∧ fs.length ≤ i ∧ os.length ≤ i ∧ Kept M0 M') ?_ ?_ _ _
      ⟨[], [], [], _, _, _, rfl, by rw [mset_ne (Ne.symm n3), mset_ne (Ne.symm n1), mset_same]; rfl, by rw [mset_ne (Ne.symm n2), mset_same]; rfl, mset_same, rfl, Nat.le_refl _, Nat.le_refl _, Nat.le_refl _, ((Kept.new hcr).put mcf).put mco⟩
    · rintro env M' ⟨seen, fs, os, w5, w6, w7, rfl, hR, hF, hO, hS, l1, l2, l3, hK⟩
      refine ⟨rfl, ?_⟩
      rw [List.length_map] at l1 l2 l3 hS
      infer_instance
      refine add_lst (celL_of hF) (celL_of hO) (by rw [List.length_map, List.length_map, sizeLine_eq]; omega) ?_
      infer_instance
      refine ⟨_, _, rfl, rfl, ?_⟩
      have e : newRacks hs ns = fs ++ os := by
        unfold newRacks
        rw [hS, List.drop_length]
        rfl
      rw [← List.map_append, ← e]
      exact h M' (hK0.trans hK)
    · rintro i x env M' hx ⟨seen, fs, os, w5, w6, w7, rfl, hR, hF, hO, hS, l1, l2, l3, hK⟩ nx hnx
      refine ⟨rfl, ?_⟩
      rw [List.getElem?_map] at hx
      obtain ⟨y, hy, rfl⟩ := omap hx
      have hi := (List.getElem?_eq_some_iff.mp hy).1
      have ed : ns.drop i = y :: ns.drop (i + 1) := by
        obtain ⟨p, e⟩ := List.getElem?_eq_some_iff.mp hy
        rw [List.drop_eq_getElem_cons p, e]
      rw [ed] at hS
      infer_instance
      refine ⟨cd, s, .inr y, _, rfl, hK cd _ hcd', rfl, tab y (List.mem_of_getElem? hy), ?_⟩
      infer_instance
      refine in_str (xs := seen) (celL_of hR) ?_
      infer_instance
      refine ifD (fun hb => ?_) (fun hb => ?_)
      · infer_instance
        refine ⟨co, _, rfl, hO, ?_⟩
        infer_instance
        refine ⟨_, _, rfl, hO, by rw [List.length_map, sizeLine_eq]; omega, ?_⟩
        refine hnx _ _ ⟨seen, fs, os ++ [y], _, _, _, rfl, by rw [mset_ne (Ne.symm n3)]; exact hR, by rw [mset_ne (Ne.symm n2)]; exact hF, by rw [mset_same, List.map_append]; rfl, ?_, by omega, by omega, by rw [List.length_append, List.length_singleton]; omega, hK.put mco⟩
        rw [hS]
        show (if rackOf hs y ∈ seen then _ else _) = _
        rw [if_pos hb]
      · infer_instance
        refine ⟨cr, _, rfl, hR, ?_⟩
        infer_instance
        refine ⟨_, _, rfl, hR, by rw [List.length_map, sizeLine_eq]; omega, ?_⟩
        infer_instance
        refine ⟨cf, _, rfl, by rw [mset_ne n1]; exact hF, ?_⟩
        infer_instance
        refine ⟨_, _, rfl, by rw [mset_ne n1]; exact hF, by rw [List.length_map, sizeLine_eq]; omega, ?_⟩
        refine hnx _ _ ⟨seen ++ [rackOf hs y], fs ++ [y], os, _, _, _, rfl, by rw [mset_ne (Ne.symm n1), mset_same, List.map_append]; rfl, by rw [mset_same, List.map_append]; rfl, by rw [mset_ne n2, mset_ne n3]; exact hO, ?_, by rw [List.length_append, List.length_singleton]; omega, by rw [List.length_append, List.length_singleton]; omega, by omega, (hK.put hcr).put mcf⟩
        rw [hS]
        show (if rackOf hs y ∈ seen then _ else _) = _
        rw [if_neg hb]
  · rintro i x M' hx ⟨s, rfl, es, hsl⟩ nx hnx
    refine ⟨rfl, ?_⟩
    rw [List.getElem?_map] at hx
    obtain ⟨o, ho, rfl⟩ := omap hx
    have hi := (List.getElem?_eq_some_iff.mp ho).1
    infer_instance
    refine ⟨s, .inr o.name, rfl, mset_same, by rw [sizeLine_eq]; omega, hnx _ ⟨_, by rw [mset_mset], ?_, ?_⟩⟩
    · rw [es, List.take_succ, ho]
      unfold bayL
      rw [List.map_append]
      have mapp : ∀ (a b acc : List (Key × D)), mergeD acc (a ++ b) = mergeD (mergeD acc a) b := by
        intro a
        induction a with
        | nil => intro b acc; rfl
        | cons x a ih => intro b acc; exact ih b _
      rw [mapp]
      rfl
    · exact Nat.le_trans setK_len (by omega)
theorem kp_keepers_in (C : Addr) : Keeps N_keepers_in 2 (sd_keepers_in C) (db_keepers_in C) := by
  rintro ds M q ex hl ⟨size, r, hs, ns, rfl, hc, hr, h12, hin, h⟩
  show db_keepers_in C _ [some (ringD C size r hs), some (strsT ns), none] M
  unfold db_keepers_in
  have hsp : PyData.strOk r.spread = true := by
    rcases hr.s with e | e <;> rw [e] <;> decide +kernel
  obtain ⟨w, hwd⟩ := Int.eq_ofNat_of_zero_le (show 0 ≤ r.wide by have := hr.w; omega)
  have last : ∀ (xs : List Str) (M' : Mem), Kept M M' → keepersOf r hs ns = xs.take w → dRet (dSl rdSl (dVar 2) dNo (dPart (dProp C (sd_Ring_factor C) (dVar 0)))) { nx := fun _ M' => q .non M', rt := q, ex := fun _ => ex } [some (ringD C size r hs), some (strsT ns), some (strsT xs)] M' := by
    intro xs M' hK e
    infer_instance
    refine ⟨_, fs_ring, size, r, hs, rfl, ?_⟩
    rw [hwd]
    infer_instance
    refine sl_tup (n := w) ?_
    rw [← List.map_take, ← e]
    exact h M' hK
  infer_instance
  refine ⟨_, fs_ring, size, r, hs, rfl, ?_⟩
  infer_instance
  refine eq_str hsp (by decide +kernel) ?_
  infer_instance
  refine ifD (fun e => ?_) (fun e => ?_)
  · infer_instance
    exact ⟨size, r, hs, ns, rfl, hc, h12, hin, fun M' hK => last (newRacks hs ns) M' hK (by unfold keepersOf; rw [if_pos e, hwd]; rfl)⟩
  · refine ⟨_, rfl, ?_⟩
    exact last ns M (Kept.refl M) (by unfold keepersOf; rw [if_neg e, hwd]; rfl)
end R
set_option maxRecDepth 100000
set_option maxHeartbeats 1000000
namespace R
open PySem PySem.Spec PyProof.Rows L2 DL
local macro_rules | `(tactic| bv_omega) => `(tactic| first | assumption | exact mset_same)
local macro_rules | `(tactic| symm) => `(tactic| first
  | ((with_reducible show ∃ _, _ = _ ∧ _); refine ⟨_, rfl, ?_⟩)
  | ((with_reducible show _ = _ ∧ _); refine ⟨rfl, ?_⟩)
  | ((with_reducible show ∃ _ _, _ = _ ∧ _ = _ ∧ _); refine ⟨_, _, rfl, rfl, ?_⟩)
  | ((with_reducible show ∃ _ _, _ = _ ∧ _); refine ⟨_, _, rfl, ?_⟩)
  | ((with_reducible show ∃ _ _ _, _ = _ ∧ _); refine ⟨_, _, _, rfl, ?_⟩)
  | ((with_reducible show (_ ≤ _ ∧ _) ∧ _); refine ⟨by omega, ?_⟩)
  | with_reducible refine add_int ?_ | with_reducible refine sub_int ?_
  | with_reducible refine lt_int ?_ | with_reducible refine le_int ?_ | with_reducible refine gt_int ?_ | with_reducible refine ge_int ?_
  | with_reducible refine int_int ?_
  | with_reducible refine eq_int ?_ | with_reducible refine ne_int ?_
  | with_reducible refine len_tup ?_ | with_reducible refine len_lst ?_
  | ((with_reducible show rdIx (.cel _) (.int _) _ _); refine ix_cel (by bv_omega) (by rfl) ?_)
  | ((with_reducible show rdIx (.lst _) (.int _) _ _); refine ix_lst (by rfl) ?_)
  | ((with_reducible show rdIx (.tup _) (.int _) _ _); refine ix_tup (by rfl) ?_)
  | ((with_reducible show rdLen [.cel _] _ _); refine len_cel (by bv_omega) ?_)
  | ((with_reducible show rdMul (.int _) (.int _) _ _); first | refine mul_l (by decide) (by decide) ?_ | refine mul_r (by decide) (by decide) ?_ | refine mul_l (by omega) (by omega) ?_ | refine mul_r (by omega) (by omega) ?_)
  | ((with_reducible show rdDiv (.int _) (.int _) _ _); refine div_int (by first | decide | assumption | omega) (by first | decide | assumption | omega) ?_)
  | ((with_reducible show rdDivmod [.int _, .int _] _ _); refine dm_int (by first | decide | assumption | omega) (by first | decide | assumption | omega) ?_)
  | ((with_reducible show @ite _ (_ = true) _ _ _); first | refine ifYes (by first | with_reducible rfl | exact Bool.not_false | assumption) ?_ | refine ifNo (by first | with_reducible rfl | exact Bool.not_true | assumption) ?_)
  | ((with_reducible show ∃ _, _ ∧ _); refine ⟨_, celL_of (by bv_omega), ?_⟩)
  | ((with_reducible show ∃ _ _ _ _, _ ∧ _ ∧ _ ∧ _ ∧ _); refine ⟨_, _, _, _, rfl, rfl, by bv_omega, by rfl, ?_⟩)
  | ((with_reducible show (_ : Nat) ≤ sizeLine ∧ _); refine ⟨by rw [sizeLine_eq]; exact Nat.le_of_ble_eq_true rfl, ?_⟩))
local macro_rules | `(tactic| infer_instance) => `(tactic| ((repeat symm); try dsimp only))
local macro_rules | `(tactic| ac_rfl) => `(tactic| ((repeat (first | symm | ((with_reducible show rdMod (.int _) (.int _) _ _); refine mod_any (by first | decide | assumption | omega) ?_; intro _ _ _))); try dsimp only))
/-- all that splitR is at the i-th name -/
theorem split_inv {hs : List Host} {ns : List Str} : ∀ i, i ≤ ns.length → ∃ seen os, splitR hs [] [] [] ns = splitR hs seen (firstsN hs ns i) os (ns.drop i) ∧ (∀ x, x ∈ seen ↔ x ∈ (ns.take i).map (rackOf hs)) ∧ (ns.Nodup → os = (ns.take i).filter fun x => !decide (x ∈ firstsN hs ns i))
  | 0, _ => ⟨[], [], rfl, fun x => by simp, fun _ => by simp⟩
  | i + 1, hi => by
    obtain ⟨seen, os, e, h1, h2⟩ := split_inv (hs := hs) (ns := ns) i (by omega)
    have hlt : i < ns.length := by omega
    have hx : ns[i]? = some ns[i] := List.getElem?_eq_getElem hlt
    rw [List.drop_eq_getElem_cons hlt] at e
    have et : ns.take (i + 1) = ns.take i ++ [ns[i]] := by rw [List.take_succ, hx]; rfl
    have step : firstsN hs ns (i + 1) = if rackOf hs ns[i] ∈ (ns.take i).map (rackOf hs) then firstsN hs ns i else firstsN hs ns i ++ [ns[i]] := by
      show (match ns[i]? with | some x => _ | none => _) = _
      rw [hx]
    have hfr : ns.Nodup → ns[i] ∉ ns.take i := fun hn hm => by
      obtain ⟨a, ha⟩ := List.getElem?_of_mem hm
      have hal : a < i := by
        have := (List.getElem?_eq_some_iff.mp ha).1
        rw [List.length_take] at this; omega
      rw [List.getElem?_take, if_pos hal] at ha
      obtain ⟨p1, q1⟩ := List.getElem?_eq_some_iff.mp ha
      exact (List.pairwise_iff_getElem.mp hn a i p1 hlt hal) q1
    have hff : ∀ x ∈ firstsN hs ns i, x ∈ ns.take i := by
      clear e h1 h2 hx et step hfr
      induction i with
      | zero => intro x hx; simp [firstsN] at hx
      | succ j ih =>
        intro x hx
        have hj : j < ns.length := by omega
        have ej : ns.take (j + 1) = ns.take j ++ [ns[j]] := by rw [List.take_succ, List.getElem?_eq_getElem hj]; rfl
        rw [ej]
        unfold firstsN at hx
        rw [List.getElem?_eq_getElem hj] at hx
        dsimp only at hx
        split at hx
        · exact List.mem_append.mpr (.inl (ih (by omega) hj x hx))
        · rcases List.mem_append.mp hx with hx | hx
          · exact List.mem_append.mpr (.inl (ih (by omega) hj x hx))
          · exact List.mem_append.mpr (.inr hx)
    by_cases hb : rackOf hs ns[i] ∈ seen
    · rw [if_pos ((h1 _).mp hb)] at step
      refine ⟨seen, os ++ [ns[i]], ?_, fun x => ?_, fun hn => ?_⟩
      · rw [e, step]
        show (if rackOf hs ns[i] ∈ seen then _ else _) = _
        rw [if_pos hb]
      · rw [et, List.map_append, List.mem_append, ← h1]
        constructor
        · exact .inl
        · rintro (h | h)
          · exact h
          · rw [List.mem_singleton.mp h]; exact hb
      · rw [et, List.filter_append, h2 hn, step]
        have : ns[i] ∉ firstsN hs ns i := fun z => hfr hn (hff _ z)
        simp [this]
    · have hb2 : ¬ rackOf hs ns[i] ∈ (ns.take i).map (rackOf hs) := fun z => hb ((h1 _).mpr z)
      rw [if_neg hb2] at step
      refine ⟨seen ++ [rackOf hs ns[i]], os, ?_, fun x => ?_, fun hn => ?_⟩
      · rw [e, step]
        show (if rackOf hs ns[i] ∈ seen then _ else _) = _
        rw [if_neg hb]
      · rw [et, List.map_append, List.mem_append, List.mem_append, ← h1]
        rfl
      · rw [et, List.filter_append, h2 hn, step]
        have e1 : (ns.take i).filter (fun x => !decide (x ∈ firstsN hs ns i ++ [ns[i]])) = (ns.take i).filter (fun x => !decide (x ∈ firstsN hs ns i)) := by
          refine List.filter_congr fun x hx => ?_
          have : x ≠ ns[i] := fun z => hfr hn (z ▸ hx)
          simp [this]
        rw [e1]
        simp
theorem keep_same {r : Rule} {hs : List Host} {ns : List Str} (hr : RuleOk r) (hn : ns.Nodup) : keepL r hs ns = keepersOf r hs ns := by
  unfold keepL keepersOf
  rcases hr.s with e | e
  · rw [if_pos e, if_neg (by rw [e]; decide +kernel)]
  · rw [if_neg (by rw [e]; decide +kernel), if_pos e]
    obtain ⟨seen, os, e1, _, h2⟩ := split_inv (hs := hs) (ns := ns) ns.length (Nat.le_refl _)
    have h3 := h2 hn
    rw [List.take_length] at h3
    have e2 : newRacks hs ns = firstsN hs ns ns.length ++ os := by
      unfold newRacks
      rw [e1, List.drop_length]
      rfl
    rw [e2]
    generalize firstsN hs ns ns.length = fs at *
    by_cases h : r.wide.toNat ≤ fs.length
    · rw [List.take_append_of_le_length (by rw [List.length_take]; omega), List.take_append_of_le_length h, List.take_take, Nat.min_self]
    · have ht : fs.take r.wide.toNat = fs := List.take_of_length_le (by omega)
      rw [ht, ← h3]
/-- the way of the host with this name -/
theorem way_uniq {size p : Int} {ms : List Int} {a b : Int} (h : IsWay size p ms a) (h' : IsWay size p ms b) : a = b := by
  have := h.2 b h'.1
  have := h'.2 a h.1
  omega
theorem sorted_uniq {α : Type} {W : α → Int} : ∀ {xs ys : List α}, xs.Perm ys → xs.Pairwise (fun a b => W a < W b) → ys.Pairwise (fun a b => W a < W b) → xs = ys
  | [], ys, hp, _, _ => (List.nil_perm.mp hp).symm
  | x :: xs, [], hp, _, _ => absurd hp.length_eq (by simp)
  | x :: xs, y :: ys, hp, h1, h2 => by
    obtain ⟨a1, a2⟩ := List.pairwise_cons.mp h1
    obtain ⟨b1, b2⟩ := List.pairwise_cons.mp h2
    have e : x = y := by
      have mx : x ∈ y :: ys := hp.mem_iff.mp List.mem_cons_self
      have my : y ∈ x :: xs := hp.mem_iff.mpr List.mem_cons_self
      rcases List.mem_cons.mp mx with e | mx
      · exact e
      · rcases List.mem_cons.mp my with e | my
        · exact e.symm
        · have := b1 x mx
          have := a1 y my
          omega
    subst e
    rw [sorted_uniq (List.Perm.cons_inv hp) a2 b2]
end R
set_option maxRecDepth 100000
set_option maxHeartbeats 1000000
namespace R
open PySem PySem.Spec PyProof.Rows L2 DL
local macro_rules | `(tactic| bv_omega) => `(tactic| first | assumption | exact mset_same)
local macro_rules | `(tactic| symm) => `(tactic| first
  | ((with_reducible show ∃ _, _ = _ ∧ _); refine ⟨_, rfl, ?_⟩)
  | ((with_reducible show _ = _ ∧ _); refine ⟨rfl, ?_⟩)
  | ((with_reducible show ∃ _ _, _ = _ ∧ _ = _ ∧ _); refine ⟨_, _, rfl, rfl, ?_⟩)
  | ((with_reducible show ∃ _ _, _ = _ ∧ _); refine ⟨_, _, rfl, ?_⟩)
  | ((with_reducible show ∃ _ _ _, _ = _ ∧ _); refine ⟨_, _, _, rfl, ?_⟩)
  | ((with_reducible show (_ ≤ _ ∧ _) ∧ _); refine ⟨by omega, ?_⟩)
  | with_reducible refine add_int ?_ | with_reducible refine sub_int ?_
  | with_reducible refine lt_int ?_ | with_reducible refine le_int ?_ | with_reducible refine gt_int ?_ | with_reducible refine ge_int ?_
  | with_reducible refine int_int ?_
  | with_reducible refine eq_int ?_ | with_reducible refine ne_int ?_
  | with_reducible refine len_tup ?_ | with_reducible refine len_lst ?_
  | ((with_reducible show rdIx (.cel _) (.int _) _ _); refine ix_cel (by bv_omega) (by rfl) ?_)
  | ((with_reducible show rdIx (.lst _) (.int _) _ _); refine ix_lst (by rfl) ?_)
  | ((with_reducible show rdIx (.tup _) (.int _) _ _); refine ix_tup (by rfl) ?_)
  | ((with_reducible show rdLen [.cel _] _ _); refine len_cel (by bv_omega) ?_)
  | ((with_reducible show rdMul (.int _) (.int _) _ _); first | refine mul_l (by decide) (by decide) ?_ | refine mul_r (by decide) (by decide) ?_ | refine mul_l (by omega) (by omega) ?_ | refine mul_r (by omega) (by omega) ?_)
  | ((with_reducible show rdDiv (.int _) (.int _) _ _); refine div_int (by first | decide | assumption | omega) (by first | decide | assumption | omega) ?_)
  | ((with_reducible show rdDivmod [.int _, .int _] _ _); refine dm_int (by first | decide | assumption | omega) (by first | decide | assumption | omega) ?_)
  | ((with_reducible show @ite _ (_ = true) _ _ _); first | refine ifYes (by first | with_reducible rfl | exact Bool.not_false | assumption) ?_ | refine ifNo (by first | with_reducible rfl | exact Bool.not_true | assumption) ?_)
  | ((with_reducible show ∃ _, _ ∧ _); refine ⟨_, celL_of (by bv_omega), ?_⟩)
  | ((with_reducible show ∃ _ _ _ _, _ ∧ _ ∧ _ ∧ _ ∧ _); refine ⟨_, _, _, _, rfl, rfl, by bv_omega, by rfl, ?_⟩)
  | ((with_reducible show (_ : Nat) ≤ sizeLine ∧ _); refine ⟨by rw [sizeLine_eq]; exact Nat.le_of_ble_eq_true rfl, ?_⟩))
local macro_rules | `(tactic| infer_instance) => `(tactic| ((repeat symm); try dsimp only))
local macro_rules | `(tactic| ac_rfl) => `(tactic| ((repeat (first | symm | ((with_reducible show rdMod (.int _) (.int _) _ _); refine mod_any (by first | decide | assumption | omega) ?_; intro _ _ _))); try dsimp only))
theorem name_repr {x : Str} (h : nameB x = true) : (reprText x).length ≤ 82 := by
  have h8 := name_len h
  have := StrLaws.reprText_len x (fun c hc => by
    have := name_ok h
    unfold PyData.strOk at this
    rw [← Array.all_toList, List.all_eq_true] at this
    have := of_decide_eq_true (this c hc)
    omega)
  omega
theorem keep_in {r : Rule} {hs : List Host} {ns : List Str} (hr : RuleOk r) : (keepL r hs ns).length ≤ 5 ∧ ∀ x ∈ keepL r hs ns, x ∈ ns := by
  have hw := hr.w
  unfold keepL
  split
  · exact ⟨by rw [List.length_take]; omega, fun x hx => List.mem_of_mem_take hx⟩
  · refine ⟨by rw [List.length_take]; omega, fun x hx => ?_⟩
    rcases List.mem_append.mp (List.mem_of_mem_take hx) with hx | hx
    · exact (firsts_in ns.length).2 x (List.mem_of_mem_take hx)
    · exact (List.mem_filter.mp hx).1
theorem walk_uniq {size p : Int} {hs : List Host} {ns ns' : List Str} (hc : CrewOk size hs) (h : WalkOf size p hs ns) (h' : WalkOf size p hs ns') : ns = ns' := by
  obtain ⟨ws, s1, rfl, p1, a1⟩ := h
  obtain ⟨ws', s2, rfl, p2, a2⟩ := h'
  have hnd := crew_nodup hc
  have key : ∀ {us us' : List (Int × Str)}, (us.map (·.2)).Nodup → (us'.map (·.2)).Nodup → (∀ a ∈ us, ∃ h ∈ hs, h.name = a.2 ∧ IsWay size p h.marks a.1) → (∀ a ∈ us', ∃ h ∈ hs, h.name = a.2 ∧ IsWay size p h.marks a.1) → (∀ x, x ∈ us.map (·.2) → x ∈ us'.map (·.2)) → ∀ a ∈ us, a ∈ us' := by
    intro us us' n1 n2 b1 b2 hm a ha
    obtain ⟨b, hb, eb⟩ := List.mem_map.mp (hm a.2 (List.mem_map.mpr ⟨a, ha, rfl⟩))
    obtain ⟨o, ho, eo, wo⟩ := b1 a ha
    obtain ⟨o', ho', eo', wo'⟩ := b2 b hb
    have : o = o' := crew_inj hc ho ho' (by rw [eo, eo', eb])
    subst this
    have e1 := way_uniq wo wo'
    have : a = b := Prod.ext e1 eb.symm
    rw [this]; exact hb
  have n1 : (ws.map (·.2)).Nodup := p1.nodup_iff.mpr hnd
  have n2 : (ws'.map (·.2)).Nodup := p2.nodup_iff.mpr hnd
  have m1 := key n1 n2 a1 a2 (fun x hx => p2.mem_iff.mpr (p1.mem_iff.mp hx))
  have m2 := key n2 n1 a2 a1 (fun x hx => p1.mem_iff.mpr (p2.mem_iff.mp hx))
  have nd : ∀ {us : List (Int × Str)}, (us.map (·.2)).Nodup → us.Nodup := fun h => by
    unfold List.Nodup at h ⊢
    rw [List.pairwise_map] at h
    exact h.imp fun hab e => hab (by rw [e])
  have strict : ∀ {us : List (Int × Str)}, (us.map (·.2)).Nodup → us.Pairwise (fun a b => a.1 ≤ b.1) → (∀ a ∈ us, ∃ h ∈ hs, h.name = a.2 ∧ IsWay size p h.marks a.1) → us.Pairwise (fun a b => a.1 < b.1) := by
    intro us hn hs2 ha
    unfold List.Nodup at hn
    rw [List.pairwise_map] at hn
    have hb := hn.and hs2
    refine List.Pairwise.imp_of_mem (fun {a b} ma mb ⟨h1, h2⟩ => ?_) hb
    rcases Int.lt_or_eq_of_le h2 with h | h
    · exact h
    · exfalso
      obtain ⟨o, ho, eo, wo⟩ := ha a ma
      obtain ⟨o', ho', eo', wo'⟩ := ha b mb
      rw [h] at wo
      have := way_apart hc ho ho' wo wo'
      exact h1 (by rw [← eo, ← eo', this])
  have pm : ws.Perm ws' := (List.perm_ext_iff_of_nodup (nd n1) (nd n2)).mpr fun a => ⟨m1 a, m2 a⟩
  rw [sorted_uniq (W := fun a : Int × Str => a.1) pm (strict n1 s1 a1) (strict n2 s2 a2)]
theorem walk_len {size p : Int} {hs : List Host} {ns : List Str} (h : WalkOf size p hs ns) : ns.length = hs.length := by
  obtain ⟨ws, _, rfl, pm, _⟩ := h
  rw [pm.length_eq, List.length_map]
theorem walk_in {size p : Int} {hs : List Host} {ns : List Str} (h : WalkOf size p hs ns) : ∀ x ∈ ns, x ∈ hs.map (·.name) := by
  obtain ⟨ws, _, rfl, pm, _⟩ := h
  exact fun x hx => pm.mem_iff.mp hx
theorem walk_nd {size p : Int} {hs : List Host} {ns : List Str} (hc : CrewOk size hs) (h : WalkOf size p hs ns) : ns.Nodup := by
  obtain ⟨ws, _, rfl, pm, _⟩ := h
  exact pm.nodup_iff.mpr (crew_nodup hc)
end R
set_option maxRecDepth 100000
set_option maxHeartbeats 1000000
namespace R
open PySem PySem.Spec PyProof.Rows L2 DL
local macro_rules | `(tactic| bv_omega) => `(tactic| first | assumption | exact mset_same)
local macro_rules | `(tactic| symm) => `(tactic| first
  | ((with_reducible show ∃ _, _ = _ ∧ _); refine ⟨_, rfl, ?_⟩)
  | ((with_reducible show _ = _ ∧ _); refine ⟨rfl, ?_⟩)
  | ((with_reducible show ∃ _ _, _ = _ ∧ _ = _ ∧ _); refine ⟨_, _, rfl, rfl, ?_⟩)
  | ((with_reducible show ∃ _ _, _ = _ ∧ _); refine ⟨_, _, rfl, ?_⟩)
  | ((with_reducible show ∃ _ _ _, _ = _ ∧ _); refine ⟨_, _, _, rfl, ?_⟩)
  | ((with_reducible show (_ ≤ _ ∧ _) ∧ _); refine ⟨by omega, ?_⟩)
  | with_reducible refine add_int ?_ | with_reducible refine sub_int ?_
  | with_reducible refine lt_int ?_ | with_reducible refine le_int ?_ | with_reducible refine gt_int ?_ | with_reducible refine ge_int ?_
  | with_reducible refine int_int ?_
  | with_reducible refine eq_int ?_ | with_reducible refine ne_int ?_
  | with_reducible refine len_tup ?_ | with_reducible refine len_lst ?_
  | ((with_reducible show rdIx (.cel _) (.int _) _ _); refine ix_cel (by bv_omega) (by rfl) ?_)
  | ((with_reducible show rdIx (.lst _) (.int _) _ _); refine ix_lst (by rfl) ?_)
  | ((with_reducible show rdIx (.tup _) (.int _) _ _); refine ix_tup (by rfl) ?_)
  | ((with_reducible show rdLen [.cel _] _ _); refine len_cel (by bv_omega) ?_)
  | ((with_reducible show rdMul (.int _) (.int _) _ _); first | refine mul_l (by decide) (by decide) ?_ | refine mul_r (by decide) (by decide) ?_ | refine mul_l (by omega) (by omega) ?_ | refine mul_r (by omega) (by omega) ?_)
  | ((with_reducible show rdDiv (.int _) (.int _) _ _); refine div_int (by first | decide | assumption | omega) (by first | decide | assumption | omega) ?_)
  | ((with_reducible show rdDivmod [.int _, .int _] _ _); refine dm_int (by first | decide | assumption | omega) (by first | decide | assumption | omega) ?_)
  | ((with_reducible show @ite _ (_ = true) _ _ _); first | refine ifYes (by first | with_reducible rfl | exact Bool.not_false | assumption) ?_ | refine ifNo (by first | with_reducible rfl | exact Bool.not_true | assumption) ?_)
  | ((with_reducible show ∃ _, _ ∧ _); refine ⟨_, celL_of (by bv_omega), ?_⟩)
  | ((with_reducible show ∃ _ _ _ _, _ ∧ _ ∧ _ ∧ _ ∧ _); refine ⟨_, _, _, _, rfl, rfl, by bv_omega, by rfl, ?_⟩)
  | ((with_reducible show (_ : Nat) ≤ sizeLine ∧ _); refine ⟨by rw [sizeLine_eq]; exact Nat.le_of_ble_eq_true rfl, ?_⟩))
local macro_rules | `(tactic| infer_instance) => `(tactic| ((repeat symm); try dsimp only))
local macro_rules | `(tactic| ac_rfl) => `(tactic| ((repeat (first | symm | ((with_reducible show rdMod (.int _) (.int _) _ _); refine mod_any (by first | decide | assumption | omega) ?_; intro _ _ _))); try dsimp only))
theorem rising_pw : ∀ {p : Str} {l : List Str}, PyProof.Rows.risingS p l = true → (p :: l).Pairwise (fun a b => ¬ b.cps.toList < a.cps.toList)
  | p, [], _ => by simp
  | p, x :: r, h => by
    have h' : (!PySem.Spec.ltCps x.cps.toList p.cps.toList && PyProof.Rows.risingS x r) = true := h
    rw [Bool.and_eq_true] at h'
    obtain ⟨h1, h2⟩ := h'
    have h3 : ¬ x.cps.toList < p.cps.toList := by
      rw [PyProof.Rows.ltCps_eq] at h1
      simpa using h1
    have ih := rising_pw h2
    refine List.pairwise_cons.mpr ⟨fun y hy => ?_, ih⟩
    rcases List.mem_cons.mp hy with rfl | hy
    · exact h3
    · have h4 := (List.pairwise_cons.mp ih).1 y hy
      intro h5
      have a1 : p.cps.toList ≤ x.cps.toList := List.not_lt.mp h3
      have a2 : x.cps.toList ≤ y.cps.toList := List.not_lt.mp h4
      have a3 := List.le_trans a1 a2
      exact absurd h5 (List.not_lt.mpr a3)
theorem sorted_pw : ∀ {l : List Str}, PyProof.Rows.sortedS l = true → l.Pairwise (fun a b => ¬ b.cps.toList < a.cps.toList)
  | [], _ => .nil
  | x :: r, h => rising_pw h
theorem perm_pw_eq {α : Type} {R : α → α → Prop} (anti : ∀ a b, R a b → R b a → a = b) : ∀ {xs ys : List α}, xs.Perm ys → xs.Pairwise R → ys.Pairwise R → xs = ys
  | [], ys, hp, _, _ => (List.nil_perm.mp hp).symm
  | x :: xs, [], hp, _, _ => absurd hp.length_eq (by simp)
  | x :: xs, y :: ys, hp, h1, h2 => by
    obtain ⟨a1, b1⟩ := List.pairwise_cons.mp h1
    obtain ⟨a2, b2⟩ := List.pairwise_cons.mp h2
    have hx : x ∈ y :: ys := hp.mem_iff.mp (List.mem_cons_self ..)
    have hy : y ∈ x :: xs := hp.mem_iff.mpr (List.mem_cons_self ..)
    have e : x = y := by
      rcases List.mem_cons.mp hx with e | hx
      · exact e
      · rcases List.mem_cons.mp hy with e | hy
        · exact e.symm
        · exact anti x y (a1 y hy) (a2 x hx)
    subst e
    rw [perm_pw_eq anti ((List.perm_cons x).mp hp) b1 b2]
theorem sortedS_uniq {xs ys : List Str} (hp : xs.Perm ys) (h1 : PyProof.Rows.sortedS xs = true) (h2 : PyProof.Rows.sortedS ys = true) : xs = ys :=
  perm_pw_eq (fun a b h h' => str_ext (List.le_antisymm (List.not_lt.mp h) (List.not_lt.mp h'))) hp (sorted_pw h1) (sorted_pw h2)
theorem eq_self {M : Mem} {q : QD} {d d' : D} {p : PyData} (e : pyOf M d = some p) (e' : pyOf M d' = some p) (hs : SeqAt.shaped p = true) (he : PyData.eqv p p = true) (w : q (.bl true) M) : rdEq d d' M q := .inl ⟨p, p, e, e', hs, hs, by rw [he]; exact w⟩
end R
set_option maxRecDepth 100000
namespace R
open PySem PySem.Spec PyProof.Rows L2 DL
abbrev N_Ring_names : List Str := ["self", "host"]
def db_Ring_names (C : Addr) : DS :=
    (dRet (dCB rdTuple (dCons (dCB rdSortS (dCons (dLc (dIter (dFld C "_hosts" (dVar 0))) (gdName 1) dYes (dOp rdIx (dVar 1) (dC (.int 0))) [1]) dNil)) dNil)))
abbrev N_Ring___contains__ : List Str := ["self", "x"]
def db_Ring___contains__ (C : Addr) : DS :=
    (dRet (dCall 2 (sd_is_word_of C) (dCons (dVar 1) (dCons (dProp C (sd_Ring_names C) (dVar 0)) dNil))))
abbrev N_check_name : List Str := ["ring", "name"]
def db_check_name (C : Addr) : DS :=
    (dIfS (dTst (dOp (rdInO true C (sd_Ring___contains__ C)) (dVar 1) (dVar 0))) dNever dNext)
end R
set_option maxRecDepth 100000
set_option maxHeartbeats 1000000
namespace R
open PySem PySem.Spec PyProof.Rows L2 DL
local macro_rules | `(tactic| bv_omega) => `(tactic| first | assumption | exact mset_same)
local macro_rules | `(tactic| symm) => `(tactic| first
  | ((with_reducible show ∃ _, _ = _ ∧ _); refine ⟨_, rfl, ?_⟩)
  | ((with_reducible show _ = _ ∧ _); refine ⟨rfl, ?_⟩)
  | ((with_reducible show ∃ _ _, _ = _ ∧ _ = _ ∧ _); refine ⟨_, _, rfl, rfl, ?_⟩)
  | ((with_reducible show ∃ _ _, _ = _ ∧ _); refine ⟨_, _, rfl, ?_⟩)
  | ((with_reducible show ∃ _ _ _, _ = _ ∧ _); refine ⟨_, _, _, rfl, ?_⟩)
  | ((with_reducible show (_ ≤ _ ∧ _) ∧ _); refine ⟨by omega, ?_⟩)
  | with_reducible refine add_int ?_ | with_reducible refine sub_int ?_
  | with_reducible refine lt_int ?_ | with_reducible refine le_int ?_ | with_reducible refine gt_int ?_ | with_reducible refine ge_int ?_
  | with_reducible refine int_int ?_
  | with_reducible refine eq_int ?_ | with_reducible refine ne_int ?_
  | with_reducible refine len_tup ?_ | with_reducible refine len_lst ?_
  | ((with_reducible show rdIx (.cel _) (.int _) _ _); refine ix_cel (by bv_omega) (by rfl) ?_)
  | ((with_reducible show rdIx (.lst _) (.int _) _ _); refine ix_lst (by rfl) ?_)
  | ((with_reducible show rdIx (.tup _) (.int _) _ _); refine ix_tup (by rfl) ?_)
  | ((with_reducible show rdLen [.cel _] _ _); refine len_cel (by bv_omega) ?_)
  | ((with_reducible show rdMul (.int _) (.int _) _ _); first | refine mul_l (by decide) (by decide) ?_ | refine mul_r (by decide) (by decide) ?_ | refine mul_l (by omega) (by omega) ?_ | refine mul_r (by omega) (by omega) ?_)
  | ((with_reducible show rdDiv (.int _) (.int _) _ _); refine div_int (by first | decide | assumption | omega) (by first | decide | assumption | omega) ?_)
  | ((with_reducible show rdDivmod [.int _, .int _] _ _); refine dm_int (by first | decide | assumption | omega) (by first | decide | assumption | omega) ?_)
  | ((with_reducible show @ite _ (_ = true) _ _ _); first | refine ifYes (by first | with_reducible rfl | exact Bool.not_false | assumption) ?_ | refine ifNo (by first | with_reducible rfl | exact Bool.not_true | assumption) ?_)
  | ((with_reducible show ∃ _, _ ∧ _); refine ⟨_, celL_of (by bv_omega), ?_⟩)
  | ((with_reducible show ∃ _ _ _ _, _ ∧ _ ∧ _ ∧ _ ∧ _); refine ⟨_, _, _, _, rfl, rfl, by bv_omega, by rfl, ?_⟩)
  | ((with_reducible show (_ : Nat) ≤ sizeLine ∧ _); refine ⟨by rw [sizeLine_eq]; exact Nat.le_of_ble_eq_true rfl, ?_⟩))
local macro_rules | `(tactic| infer_instance) => `(tactic| ((repeat symm); try dsimp only))
local macro_rules | `(tactic| ac_rfl) => `(tactic| ((repeat (first | symm | ((with_reducible show rdMod (.int _) (.int _) _ _); refine mod_any (by first | decide | assumption | omega) ?_; intro _ _ _))); try dsimp only))
def Apart (a b : Host) : Prop := a.name ≠ b.name ∧ ∀ m ∈ b.marks, m ∉ a.marks
theorem Apart.symm {a b : Host} (h : Apart a b) : Apart b a := ⟨Ne.symm h.1, fun m hm hb => h.2 m hb hm⟩
theorem crew_of {size : Int} {hs : List Host} (ne : hs ≠ []) (few : hs.length ≤ 12) (ht : ∀ h ∈ hs, HostT size h) (hp : hs.Pairwise Apart) : CrewOk size hs := by
  refine ⟨ne, few, fun i h hi => ?_⟩
  obtain ⟨hl, e⟩ := List.getElem?_eq_some_iff.mp hi
  have hT := ht h (List.mem_of_getElem? hi)
  have key : ∀ o ∈ hs.take i, Apart o h := fun o ho => by
    obtain ⟨j, hj, rfl⟩ := List.mem_iff_getElem.mp ho
    rw [List.length_take] at hj
    rw [List.getElem_take, ← e]
    exact List.pairwise_iff_getElem.mp hp j i (by omega) hl (by omega)
  exact ⟨hT.name, hT.rack, fun o ho => (key o ho).1, hT.marks, fun o ho m hm => (key o ho).2 m hm⟩
theorem crew_pw {size : Int} {hs : List Host} (hc : CrewOk size hs) : hs.Pairwise Apart := by
  rw [List.pairwise_iff_getElem]
  intro i j hi hj hij
  have h := hc.each j hs[j] (List.getElem?_eq_getElem hj)
  have hm : hs[i] ∈ hs.take j := by
    rw [List.mem_iff_getElem]
    exact ⟨i, by rw [List.length_take]; omega, by rw [List.getElem_take]⟩
  exact ⟨h.fresh _ hm, h.free _ hm⟩
theorem kp_Ring_names (C : Addr) : Keeps N_Ring_names 1 (sd_Ring_names C) (db_Ring_names C) := by
  rintro ds M q ex hl ⟨size, r, hs, rfl, hf, h⟩
  show db_Ring_names C _ [some (ringD C size r hs), none] M
  unfold db_Ring_names
  infer_instance
  refine fld_ring lk_hosts ?_
  infer_instance
  intro c hcn
  refine lc_pure (fun _ => true) (fun d => match d with | .tup (x :: _) => x | d => d) hcn (by rw [List.length_map, sizeLine_eq]; omega) (fun _ => rfl) (fun y hy acc hz nx hyes _ => ?_) ?_
  · obtain ⟨o, ho, rfl⟩ := List.mem_map.mp hy
    infer_instance
    exact acc_put hz (hyes rfl)
  · have e : (((hs.map hostD).filter fun _ => true).map fun d => match d with | .tup (x :: _) => x | d => d) = (hs.map (·.name)).map D.str := by
      rw [List.filter_eq_self.mpr fun _ _ => rfl, List.map_map, List.map_map]
      rfl
    rw [e]
    infer_instance
    refine ⟨_, _, hs.map (·.name), rfl, rfl, DL.strs_map _, by rw [List.length_map]; omega, fun ys hp ho => ?_⟩
    infer_instance
    exact ⟨_, _, rfl, rfl, h ys hp ho⟩
theorem kp_Ring___contains__ (C : Addr) : Keeps N_Ring___contains__ 2 (sd_Ring___contains__ C) (db_Ring___contains__ C) := by
  rintro ds M q ex hl ⟨size, r, hs, d, rfl, hf, h⟩
  show db_Ring___contains__ C _ [some (ringD C size r hs), some d] M
  unfold db_Ring___contains__
  infer_instance
  refine ⟨_, fs_ring, size, r, hs, rfl, hf, fun ys hp ho => ?_⟩
  infer_instance
  rcases h with ⟨x, rfl, h⟩ | ⟨t, ht, hn, h⟩
  · refine .inl ⟨x, ys, rfl, ?_⟩
    rw [show decide (x ∈ ys) = decide (x ∈ hs.map (·.name)) from decide_eq_decide.mpr hp.mem_iff]
    exact h
  · exact .inr ⟨d, ys, t, rfl, ht, hn, h⟩
theorem kp_check_name (C : Addr) : Keeps N_check_name 2 (sd_check_name C) (db_check_name C) := by
  rintro ds M q ex hl ⟨size, r, hs, x, rfl, hf, hx, h⟩
  show db_check_name C _ [some (ringD C size r hs), some (.str x)] M
  unfold db_check_name
  infer_instance
  refine ⟨_, fs_ring, size, r, hs, _, rfl, hf, .inl ⟨x, rfl, ?_⟩⟩
  rw [decide_eq_true hx]
  infer_instance
  exact h
end R
set_option maxRecDepth 100000
set_option maxHeartbeats 1000000
namespace R
open PySem PySem.Spec PyProof.Rows L2 DL
local macro_rules | `(tactic| bv_omega) => `(tactic| first | assumption | exact mset_same)
local macro_rules | `(tactic| symm) => `(tactic| first
  | ((with_reducible show ∃ _, _ = _ ∧ _); refine ⟨_, rfl, ?_⟩)
  | ((with_reducible show _ = _ ∧ _); refine ⟨rfl, ?_⟩)
  | ((with_reducible show ∃ _ _, _ = _ ∧ _ = _ ∧ _); refine ⟨_, _, rfl, rfl, ?_⟩)
  | ((with_reducible show ∃ _ _, _ = _ ∧ _); refine ⟨_, _, rfl, ?_⟩)
  | ((with_reducible show ∃ _ _ _, _ = _ ∧ _); refine ⟨_, _, _, rfl, ?_⟩)
  | ((with_reducible show (_ ≤ _ ∧ _) ∧ _); refine ⟨by omega, ?_⟩)
  | with_reducible refine add_int ?_ | with_reducible refine sub_int ?_
  | with_reducible refine lt_int ?_ | with_reducible refine le_int ?_ | with_reducible refine gt_int ?_ | with_reducible refine ge_int ?_
  | with_reducible refine int_int ?_
  | with_reducible refine eq_int ?_ | with_reducible refine ne_int ?_
  | with_reducible refine len_tup ?_ | with_reducible refine len_lst ?_
  | ((with_reducible show rdIx (.cel _) (.int _) _ _); refine ix_cel (by bv_omega) (by rfl) ?_)
  | ((with_reducible show rdIx (.lst _) (.int _) _ _); refine ix_lst (by rfl) ?_)
  | ((with_reducible show rdIx (.tup _) (.int _) _ _); refine ix_tup (by rfl) ?_)
  | ((with_reducible show rdLen [.cel _] _ _); refine len_cel (by bv_omega) ?_)
  | ((with_reducible show rdMul (.int _) (.int _) _ _); first | refine mul_l (by decide) (by decide) ?_ | refine mul_r (by decide) (by decide) ?_ | refine mul_l (by omega) (by omega) ?_ | refine mul_r (by omega) (by omega) ?_)
  | ((with_reducible show rdDiv (.int _) (.int _) _ _); refine div_int (by first | decide | assumption | omega) (by first | decide | assumption | omega) ?_)
  | ((with_reducible show rdDivmod [.int _, .int _] _ _); refine dm_int (by first | decide | assumption | omega) (by first | decide | assumption | omega) ?_)
  | ((with_reducible show @ite _ (_ = true) _ _ _); first | refine ifYes (by first | with_reducible rfl | exact Bool.not_false | assumption) ?_ | refine ifNo (by first | with_reducible rfl | exact Bool.not_true | assumption) ?_)
  | ((with_reducible show ∃ _, _ ∧ _); refine ⟨_, celL_of (by bv_omega), ?_⟩)
  | ((with_reducible show ∃ _ _ _ _, _ ∧ _ ∧ _ ∧ _ ∧ _); refine ⟨_, _, _, _, rfl, rfl, by bv_omega, by rfl, ?_⟩)
  | ((with_reducible show (_ : Nat) ≤ sizeLine ∧ _); refine ⟨by rw [sizeLine_eq]; exact Nat.le_of_ble_eq_true rfl, ?_⟩))
local macro_rules | `(tactic| infer_instance) => `(tactic| ((repeat symm); try dsimp only))
local macro_rules | `(tactic| ac_rfl) => `(tactic| ((repeat (first | symm | ((with_reducible show rdMod (.int _) (.int _) _ _); refine mod_any (by first | decide | assumption | omega) ?_; intro _ _ _))); try dsimp only))
end R
set_option maxRecDepth 100000
set_option maxHeartbeats 1000000
namespace R
open PySem PySem.Spec PyProof.Rows L2 DL
local macro_rules | `(tactic| bv_omega) => `(tactic| first | assumption | exact mset_same)
local macro_rules | `(tactic| symm) => `(tactic| first
  | ((with_reducible show ∃ _, _ = _ ∧ _); refine ⟨_, rfl, ?_⟩)
  | ((with_reducible show _ = _ ∧ _); refine ⟨rfl, ?_⟩)
  | ((with_reducible show ∃ _ _, _ = _ ∧ _ = _ ∧ _); refine ⟨_, _, rfl, rfl, ?_⟩)
  | ((with_reducible show ∃ _ _, _ = _ ∧ _); refine ⟨_, _, rfl, ?_⟩)
  | ((with_reducible show ∃ _ _ _, _ = _ ∧ _); refine ⟨_, _, _, rfl, ?_⟩)
  | ((with_reducible show (_ ≤ _ ∧ _) ∧ _); refine ⟨by omega, ?_⟩)
  | with_reducible refine add_int ?_ | with_reducible refine sub_int ?_
  | with_reducible refine lt_int ?_ | with_reducible refine le_int ?_ | with_reducible refine gt_int ?_ | with_reducible refine ge_int ?_
  | with_reducible refine int_int ?_
  | with_reducible refine eq_int ?_ | with_reducible refine ne_int ?_
  | with_reducible refine len_tup ?_ | with_reducible refine len_lst ?_
  | ((with_reducible show rdIx (.cel _) (.int _) _ _); refine ix_cel (by bv_omega) (by rfl) ?_)
  | ((with_reducible show rdIx (.lst _) (.int _) _ _); refine ix_lst (by rfl) ?_)
  | ((with_reducible show rdIx (.tup _) (.int _) _ _); refine ix_tup (by rfl) ?_)
  | ((with_reducible show rdLen [.cel _] _ _); refine len_cel (by bv_omega) ?_)
  | ((with_reducible show rdMul (.int _) (.int _) _ _); first | refine mul_l (by decide) (by decide) ?_ | refine mul_r (by decide) (by decide) ?_ | refine mul_l (by omega) (by omega) ?_ | refine mul_r (by omega) (by omega) ?_)
  | ((with_reducible show rdDiv (.int _) (.int _) _ _); refine div_int (by first | decide | assumption | omega) (by first | decide | assumption | omega) ?_)
  | ((with_reducible show rdDivmod [.int _, .int _] _ _); refine dm_int (by first | decide | assumption | omega) (by first | decide | assumption | omega) ?_)
  | ((with_reducible show @ite _ (_ = true) _ _ _); first | refine ifYes (by first | with_reducible rfl | exact Bool.not_false | assumption) ?_ | refine ifNo (by first | with_reducible rfl | exact Bool.not_true | assumption) ?_)
  | ((with_reducible show ∃ _, _ ∧ _); refine ⟨_, celL_of (by bv_omega), ?_⟩)
  | ((with_reducible show ∃ _ _ _ _, _ ∧ _ ∧ _ ∧ _ ∧ _); refine ⟨_, _, _, _, rfl, rfl, by bv_omega, by rfl, ?_⟩)
  | ((with_reducible show (_ : Nat) ≤ sizeLine ∧ _); refine ⟨by rw [sizeLine_eq]; exact Nat.le_of_ble_eq_true rfl, ?_⟩))
local macro_rules | `(tactic| infer_instance) => `(tactic| ((repeat symm); try dsimp only))
local macro_rules | `(tactic| ac_rfl) => `(tactic| ((repeat (first | symm | ((with_reducible show rdMod (.int _) (.int _) _ _); refine mod_any (by first | decide | assumption | omega) ?_; intro _ _ _))); try dsimp only))
end R
set_option maxRecDepth 100000
set_option maxHeartbeats 1000000
namespace R
open PySem PySem.Spec PyProof.Rows L2 DL
local macro_rules | `(tactic| bv_omega) => `(tactic| first | assumption | exact mset_same)
local macro_rules | `(tactic| symm) => `(tactic| first
  | ((with_reducible show ∃ _, _ = _ ∧ _); refine ⟨_, rfl, ?_⟩)
  | ((with_reducible show _ = _ ∧ _); refine ⟨rfl, ?_⟩)
  | ((with_reducible show ∃ _ _, _ = _ ∧ _ = _ ∧ _); refine ⟨_, _, rfl, rfl, ?_⟩)
  | ((with_reducible show ∃ _ _, _ = _ ∧ _); refine ⟨_, _, rfl, ?_⟩)
  | ((with_reducible show ∃ _ _ _, _ = _ ∧ _); refine ⟨_, _, _, rfl, ?_⟩)
  | ((with_reducible show (_ ≤ _ ∧ _) ∧ _); refine ⟨by omega, ?_⟩)
  | with_reducible refine add_int ?_ | with_reducible refine sub_int ?_
  | with_reducible refine lt_int ?_ | with_reducible refine le_int ?_ | with_reducible refine gt_int ?_ | with_reducible refine ge_int ?_
  | with_reducible refine int_int ?_
  | with_reducible refine eq_int ?_ | with_reducible refine ne_int ?_
  | with_reducible refine len_tup ?_ | with_reducible refine len_lst ?_
  | ((with_reducible show rdIx (.cel _) (.int _) _ _); refine ix_cel (by bv_omega) (by rfl) ?_)
  | ((with_reducible show rdIx (.lst _) (.int _) _ _); refine ix_lst (by rfl) ?_)
  | ((with_reducible show rdIx (.tup _) (.int _) _ _); refine ix_tup (by rfl) ?_)
  | ((with_reducible show rdLen [.cel _] _ _); refine len_cel (by bv_omega) ?_)
  | ((with_reducible show rdMul (.int _) (.int _) _ _); first | refine mul_l (by decide) (by decide) ?_ | refine mul_r (by decide) (by decide) ?_ | refine mul_l (by omega) (by omega) ?_ | refine mul_r (by omega) (by omega) ?_)
  | ((with_reducible show rdDiv (.int _) (.int _) _ _); refine div_int (by first | decide | assumption | omega) (by first | decide | assumption | omega) ?_)
  | ((with_reducible show rdDivmod [.int _, .int _] _ _); refine dm_int (by first | decide | assumption | omega) (by first | decide | assumption | omega) ?_)
  | ((with_reducible show @ite _ (_ = true) _ _ _); first | refine ifYes (by first | with_reducible rfl | exact Bool.not_false | assumption) ?_ | refine ifNo (by first | with_reducible rfl | exact Bool.not_true | assumption) ?_)
  | ((with_reducible show ∃ _, _ ∧ _); refine ⟨_, celL_of (by bv_omega), ?_⟩)
  | ((with_reducible show ∃ _ _ _ _, _ ∧ _ ∧ _ ∧ _ ∧ _); refine ⟨_, _, _, _, rfl, rfl, by bv_omega, by rfl, ?_⟩)
  | ((with_reducible show (_ : Nat) ≤ sizeLine ∧ _); refine ⟨by rw [sizeLine_eq]; exact Nat.le_of_ble_eq_true rfl, ?_⟩))
local macro_rules | `(tactic| infer_instance) => `(tactic| ((repeat symm); try dsimp only))
local macro_rules | `(tactic| ac_rfl) => `(tactic| ((repeat (first | symm | ((with_reducible show rdMod (.int _) (.int _) _ _); refine mod_any (by first | decide | assumption | omega) ?_; intro _ _ _))); try dsimp only))
theorem eqv_int {a b : Int} : PyData.eqv (.int a) (.int b) = decide (a = b) := by
  rw [PyData.eqv]
  by_cases h : a = b
  · subst h; simp
  · simp [h]
end R
set_option maxRecDepth 100000
set_option maxHeartbeats 1000000
namespace R
open PySem PySem.Spec PyProof.Rows L2 DL
local macro_rules | `(tactic| bv_omega) => `(tactic| first | assumption | exact mset_same)
local macro_rules | `(tactic| symm) => `(tactic| first
  | ((with_reducible show ∃ _, _ = _ ∧ _); refine ⟨_, rfl, ?_⟩)
  | ((with_reducible show _ = _ ∧ _); refine ⟨rfl, ?_⟩)
  | ((with_reducible show ∃ _ _, _ = _ ∧ _ = _ ∧ _); refine ⟨_, _, rfl, rfl, ?_⟩)
  | ((with_reducible show ∃ _ _, _ = _ ∧ _); refine ⟨_, _, rfl, ?_⟩)
  | ((with_reducible show ∃ _ _ _, _ = _ ∧ _); refine ⟨_, _, _, rfl, ?_⟩)
  | ((with_reducible show (_ ≤ _ ∧ _) ∧ _); refine ⟨by omega, ?_⟩)
  | with_reducible refine add_int ?_ | with_reducible refine sub_int ?_
  | with_reducible refine lt_int ?_ | with_reducible refine le_int ?_ | with_reducible refine gt_int ?_ | with_reducible refine ge_int ?_
  | with_reducible refine int_int ?_
  | with_reducible refine eq_int ?_ | with_reducible refine ne_int ?_
  | with_reducible refine len_tup ?_ | with_reducible refine len_lst ?_
  | ((with_reducible show rdIx (.cel _) (.int _) _ _); refine ix_cel (by bv_omega) (by rfl) ?_)
  | ((with_reducible show rdIx (.lst _) (.int _) _ _); refine ix_lst (by rfl) ?_)
  | ((with_reducible show rdIx (.tup _) (.int _) _ _); refine ix_tup (by rfl) ?_)
  | ((with_reducible show rdLen [.cel _] _ _); refine len_cel (by bv_omega) ?_)
  | ((with_reducible show rdMul (.int _) (.int _) _ _); first | refine mul_l (by decide) (by decide) ?_ | refine mul_r (by decide) (by decide) ?_ | refine mul_l (by omega) (by omega) ?_ | refine mul_r (by omega) (by omega) ?_)
  | ((with_reducible show rdDiv (.int _) (.int _) _ _); refine div_int (by first | decide | assumption | omega) (by first | decide | assumption | omega) ?_)
  | ((with_reducible show rdDivmod [.int _, .int _] _ _); refine dm_int (by first | decide | assumption | omega) (by first | decide | assumption | omega) ?_)
  | ((with_reducible show @ite _ (_ = true) _ _ _); first | refine ifYes (by first | with_reducible rfl | exact Bool.not_false | assumption) ?_ | refine ifNo (by first | with_reducible rfl | exact Bool.not_true | assumption) ?_)
  | ((with_reducible show ∃ _, _ ∧ _); refine ⟨_, celL_of (by bv_omega), ?_⟩)
  | ((with_reducible show ∃ _ _ _ _, _ ∧ _ ∧ _ ∧ _ ∧ _); refine ⟨_, _, _, _, rfl, rfl, by bv_omega, by rfl, ?_⟩)
  | ((with_reducible show (_ : Nat) ≤ sizeLine ∧ _); refine ⟨by rw [sizeLine_eq]; exact Nat.le_of_ble_eq_true rfl, ?_⟩))
local macro_rules | `(tactic| infer_instance) => `(tactic| ((repeat symm); try dsimp only))
local macro_rules | `(tactic| ac_rfl) => `(tactic| ((repeat (first | symm | ((with_reducible show rdMod (.int _) (.int _) _ _); refine mod_any (by first | decide | assumption | omega) ?_; intro _ _ _))); try dsimp only))
theorem eqv_ints : ∀ xs ys : List Int, PyData.eqvAll (xs.map PyData.int) (ys.map PyData.int) = decide (xs = ys)
  | [], [] => by simp [PyData.eqvAll]
  | [], y :: ys => by simp [PyData.eqvAll]
  | x :: xs, [] => by simp [PyData.eqvAll]
  | x :: xs, y :: ys => by
    rw [List.map_cons, List.map_cons, PyData.eqvAll, eqv_ints xs ys, eqv_int]
    by_cases h : x = y
    · subst h; simp
    · simp [h]
end R
set_option maxRecDepth 100000
set_option maxHeartbeats 1000000
namespace R
open PySem PySem.Spec PyProof.Rows L2 DL
local macro_rules | `(tactic| bv_omega) => `(tactic| first | assumption | exact mset_same)
local macro_rules | `(tactic| symm) => `(tactic| first
  | ((with_reducible show ∃ _, _ = _ ∧ _); refine ⟨_, rfl, ?_⟩)
  | ((with_reducible show _ = _ ∧ _); refine ⟨rfl, ?_⟩)
  | ((with_reducible show ∃ _ _, _ = _ ∧ _ = _ ∧ _); refine ⟨_, _, rfl, rfl, ?_⟩)
  | ((with_reducible show ∃ _ _, _ = _ ∧ _); refine ⟨_, _, rfl, ?_⟩)
  | ((with_reducible show ∃ _ _ _, _ = _ ∧ _); refine ⟨_, _, _, rfl, ?_⟩)
  | ((with_reducible show (_ ≤ _ ∧ _) ∧ _); refine ⟨by omega, ?_⟩)
  | with_reducible refine add_int ?_ | with_reducible refine sub_int ?_
  | with_reducible refine lt_int ?_ | with_reducible refine le_int ?_ | with_reducible refine gt_int ?_ | with_reducible refine ge_int ?_
  | with_reducible refine int_int ?_
  | with_reducible refine eq_int ?_ | with_reducible refine ne_int ?_
  | with_reducible refine len_tup ?_ | with_reducible refine len_lst ?_
  | ((with_reducible show rdIx (.cel _) (.int _) _ _); refine ix_cel (by bv_omega) (by rfl) ?_)
  | ((with_reducible show rdIx (.lst _) (.int _) _ _); refine ix_lst (by rfl) ?_)
  | ((with_reducible show rdIx (.tup _) (.int _) _ _); refine ix_tup (by rfl) ?_)
  | ((with_reducible show rdLen [.cel _] _ _); refine len_cel (by bv_omega) ?_)
  | ((with_reducible show rdMul (.int _) (.int _) _ _); first | refine mul_l (by decide) (by decide) ?_ | refine mul_r (by decide) (by decide) ?_ | refine mul_l (by omega) (by omega) ?_ | refine mul_r (by omega) (by omega) ?_)
  | ((with_reducible show rdDiv (.int _) (.int _) _ _); refine div_int (by first | decide | assumption | omega) (by first | decide | assumption | omega) ?_)
  | ((with_reducible show rdDivmod [.int _, .int _] _ _); refine dm_int (by first | decide | assumption | omega) (by first | decide | assumption | omega) ?_)
  | ((with_reducible show @ite _ (_ = true) _ _ _); first | refine ifYes (by first | with_reducible rfl | exact Bool.not_false | assumption) ?_ | refine ifNo (by first | with_reducible rfl | exact Bool.not_true | assumption) ?_)
  | ((with_reducible show ∃ _, _ ∧ _); refine ⟨_, celL_of (by bv_omega), ?_⟩)
  | ((with_reducible show ∃ _ _ _ _, _ ∧ _ ∧ _ ∧ _ ∧ _); refine ⟨_, _, _, _, rfl, rfl, by bv_omega, by rfl, ?_⟩)
  | ((with_reducible show (_ : Nat) ≤ sizeLine ∧ _); refine ⟨by rw [sizeLine_eq]; exact Nat.le_of_ble_eq_true rfl, ?_⟩))
local macro_rules | `(tactic| infer_instance) => `(tactic| ((repeat symm); try dsimp only))
local macro_rules | `(tactic| ac_rfl) => `(tactic| ((repeat (first | symm | ((with_reducible show rdMod (.int _) (.int _) _ _); refine mod_any (by first | decide | assumption | omega) ?_; intro _ _ _))); try dsimp only))
theorem piledN {n : Nat} : ∀ {xs : List Str}, (∀ x ∈ xs, x.length ≤ n) → piled xs ≤ (n + 2) * xs.length
  | [], _ => by simp [piled]
  | x :: xs, h => by
    rw [piled_cons, List.length_cons, Nat.mul_add]
    have := h x List.mem_cons_self
    have := piledN fun y hy => h y (List.mem_cons_of_mem _ hy)
    omega
theorem tup_le (ts : List Str) : (tupleText ts).length ≤ 3 + piled ts := by
  unfold tupleText
  rw [strLen_append, strLen_append]
  have hj : (Str.join ", " ts).length ≤ piled ts := by
    cases ts with
    | nil => decide +kernel
    | cons x r =>
      have := join_length_add (x :: r) (by simp)
      omega
  have h4 : ("(" : Str).length = 1 := rfl
  have h5 : ((if ts.length == 1 then ",)" else ")" : String) : Str).length ≤ 2 := by
    split <;> decide +kernel
  omega
theorem shownAll_len : ∀ xs : List PyData, (PyData.shownAll xs).length = xs.length
  | [] => by simp [PyData.shownAll]
  | x :: xs => by rw [PyData.shownAll, List.length_cons, List.length_cons, shownAll_len xs]
theorem lst_le (ts : List Str) : (("[" : Str) ++ Str.join ", " ts ++ "]").length ≤ 3 + piled ts := by
  rw [strLen_append, strLen_append]
  have hj : (Str.join ", " ts).length ≤ piled ts := by
    cases ts with
    | nil => decide +kernel
    | cons x r =>
      have := join_length_add (x :: r) (by simp)
      omega
  have h4 : ("[" : Str).length = 1 := rfl
  have h5 : ("]" : Str).length = 1 := rfl
  omega
end R
set_option maxRecDepth 100000
set_option maxHeartbeats 4000000
namespace DL
open PySem PySem.Spec PyProof.Rows L2 PySem.Calls
end DL
set_option maxRecDepth 100000
set_option maxHeartbeats 4000000
namespace DL
open PySem PySem.Spec PyProof.Rows L2 PySem.Calls
end DL
set_option maxRecDepth 100000
set_option maxHeartbeats 4000000
namespace DL
open PySem PySem.Spec PyProof.Rows L2
section
variable {X : Cx} {W : WX}
def rdDivW : RD2 := rdI CDivW fun i j => .int (i / j)
theorem opd_divW : OpD X (binaryOp .FloorDiv) rdDivW := opd_int op_fdivW fun _ _ _ => .int _
end
end DL
set_option maxRecDepth 100000
set_option maxHeartbeats 4000000
namespace DL
open PySem PySem.Spec PyProof.Rows L2
end DL
set_option maxRecDepth 100000
set_option maxHeartbeats 4000000
namespace DL
open PySem PySem.Spec PyProof.Rows L2
section
variable {X : Cx} {W : WX} {tg : Expr}
def rdSum : RDL := fun ds M q => ∃ d xs ns, ds = [d] ∧ lsqOf M d = some xs ∧ intsD xs = some ns ∧ q (.int ns.sum) M
theorem cd_sum (hc : X.calm = true) : CallD X (.builtin "sum") rdSum := ⟨_, cr_sum hc, fun H0 H M xs ds q Q S r w k => by
  obtain ⟨d, ys, ns, rfl, e, en, w⟩ := w
  obtain ⟨v, rfl, rv⟩ := dnl1 r
  obtain ⟨a, vs, rfl, hs, rs⟩ := S.lsq rv e
  have z := ints_dn rs en
  subst z
  exact ⟨a, ns, rfl, hs, k.here S (.int _) w⟩⟩
def rdMaxL : RDL := fun ds M q => ∃ d xs ns, ds = [d] ∧ lsqOf M d = some xs ∧ intsD xs = some ns ∧ 0 < ns.length ∧ ∀ m, m ∈ ns → (∀ y, y ∈ ns → y ≤ m) → q (.int m) M
theorem cd_maxL (hc : X.calm = true) : CallD X (.builtin "max") rdMaxL := ⟨_, cr_max hc, fun H0 H M xs ds q Q S r w k => by
  obtain ⟨d, ys, ns, rfl, e, en, hl, w⟩ := w
  obtain ⟨v, rfl, rv⟩ := dnl1 r
  obtain ⟨a, vs, rfl, hs, rs⟩ := S.lsq rv e
  have z := ints_dn rs en
  subst z
  exact ⟨a, ns, rfl, hs, hl, fun m h1 h2 => k.here S (.int _) (w m h1 h2)⟩⟩
@[reducible] def rdRevL : RD1 := fun x M q => ∃ xs, lsqOf M x = some xs ∧ q (.lst xs.reverse) M
@[reducible] def dRevL (de : DE) : DE := fun env M q E => de env M (fun x M1 => rdRevL x M1 q) E
theorem pd_revL {e : Expr} {de : DE} {k : Nat} {p1 p2 p3 pos : Pos} (he : PD X W e de) : PD X W (.Subscript e (.Slice none none (some (.UnaryOp .USub (.Constant (.int 1) k p1) p2)) p3) pos) (dRevL de) :=
  peImp (pe_revL he) fun σ H Q ⟨env, M, q, E, H0, so, S, h, k, kx⟩ => ⟨env, M, _, E, H0, so, S, h, fun v d H1 H' M1 e1 S1 rv w => by
    obtain ⟨xs, e, w⟩ := w
    obtain ⟨a, vs, rfl, hs, r⟩ := S1.lsq rv e
    exact ⟨_, _, rfl, hs, (k.mono e1).newL S1 r.rev w⟩, kx⟩
theorem rev_at {α : Type} {xs : List α} {i : Nat} {x : α} (h : xs.reverse[i]? = some x) : i < xs.length ∧ xs[xs.length - 1 - i]? = some x := by
  have hi := (List.getElem?_eq_some_iff.mp h).1
  rw [List.length_reverse] at hi
  rw [List.getElem?_reverse hi] at h
  exact ⟨hi, h⟩
theorem itv_ok {K : PySem.W.Frag} {H0 : Hp} {a : Addr} {d : D} {xs : List D} {n : Nat} (hn : n = xs.length) (hl : ∀ H0' H M, Ext H0 H0' → SD K H0' H M → lsqOf M d = some xs → ∃ vs, SqL K H a vs ∧ DnL K H0' vs xs) : ItOk K H0 (Itv K a n) xs.reverse (fun M => lsqOf M d = some xs) where
  go := fun H0' H M i y e S ok hi => by
    obtain ⟨h1, h2⟩ := rev_at hi
    obtain ⟨vs, hs, r⟩ := hl H0' H M e S ok
    rw [← hn] at h1 h2
    obtain ⟨v, hv, rv⟩ := r.get h2
    exact ⟨⟨h1, vs, v, hs, hv⟩, fun x H' ⟨e1, e2⟩ => by
      subst e1
      have := e2 vs hs
      rw [hv] at this
      cases this
      exact ⟨H0', Ext.refl _, S, rv⟩⟩
  stop := fun H0' H M i e S ok hi => by
    rw [List.length_reverse, ← hn] at hi
    exact hi
@[reducible] def dIterRev (de : DE) : DI := fun env M q E => de env M (fun d M1 => ∃ xs, lsqOf M1 d = some xs ∧ q xs.reverse (fun M' => lsqOf M' d = some xs) M1) E
theorem id_rev {e : Expr} {de : DE} {p pos : Pos} (hg : Gl X "reversed") (hm : X.mg "reversed" = none) (he : PD X W e de) (hs : starEach [e] X.env = (false, eval e X.env) :: starEach [] X.env := by rfl) : ID X W tg (.Call (.Name "reversed" p) [e] [] pos) (dIterRev de) :=
  piImp (RT.pi_revA hg hm he hs) fun σ H R ⟨env, M, q, E, H0, so, S, h, k, kx⟩ => goE so S h kx fun x dx H1 H' M1 e1 so1 S1 rx ⟨xs, ex, w⟩ kx1 => by
    obtain ⟨a, vs, rfl, hs2, r⟩ := S1.lsq rx ex
    exact ⟨a, vs, rfl, .inl ⟨hs2, k _ _ _ H1 H' M1 e1 S1 (itv_ok (d := dx) r.length (lsq_at rx rfl)) w⟩⟩
end
end DL
set_option maxRecDepth 100000
namespace SL
open PySem PySem.Spec PyProof.Rows L2
/-- an empty set as it is made -/
abbrev newSetO (w : World) : Obj := { cls := .type "set", dict := none, data := .set #[] 0 (.fresh 0 0 (!w.params.followText "set-order")) }
abbrev behindSet (w : World) (s : Shared) : Shared := { s with heap := s.heap.push (newSetO w) }
/-- what set(l) leaves -/
structure Filled (w : World) (s : Shared) (ns : List Int) (h' : Heap) (c : Nat) : Prop where
  at_ : SetR w h' s.heap.objs.size (fun j => decide (j ∈ ns)) c
  few : c ≤ ns.length
  old : ∀ b o, s.heap.get? b = some o → h'.get? b = some o
section
variable {P : Program} {w : World} {A : Around} {E : Value → Shared → Prop} {s : Shared} {l : Addr} {items : Array Value} {ns : List Int}
/-- set.__init__ over a list of ints -/
theorem init_list (hh : A.handled = none) (hl : s.heap.IsList l items) (hi : IntsAre items.toList ns) (hn : items.size = ns.length) (hb : ns.length + 1 < scanBound) {Q : PySem.Fin → Shared → Prop}
    (h : ∀ h' tk c, Filled w s ns h' c → Q (.done (.ret Value.none)) { s with heap := h', toks := tk }) :
    wpAny (model P w) A (Builtin.«set.__init__» ⟨[.ref s.heap.objs.size, .ref l], []⟩) Q E (behindSet w s) := by
  have at0 : (behindSet w s).heap.get? s.heap.objs.size = some (newSetO w) := Heap.get?_push_size _ rfl
  have hT : (behindSet w s).TypeIs (.ref s.heap.objs.size) "set" := ⟨_, at0, rfl⟩
  obtain ⟨⟨cl, dd, dt, sl⟩, ho, hc, n, hd⟩ := id hl
  simp only at hc hd
  subst hc hd
  have ho' : (behindSet w s).heap.get? l = some { cls := .type "list", dict := dd, data := .seq items n, slots := sl } := Heap.get?_push_of_some _ ho
  have k1 := F.sub_list_set
  have k2 := F.sub_list_frozenset
  have k3 : (Value.type "list" == Value.type "dict") = false := by decide
  have hl1 : (behindSet w s).heap.IsList l items := hl.push _
  unfold Builtin.«set.__init__» noKeywords Builtin.Frozenset.updateFrom
  generalize gPI : pyIter = PI
  wp_walk
  subst gPI
  refine wpAny_pyIter_list hl1 ?_
  refine wpAny_bind (wpAny_runValue ?_)
  have lt0 : l < s.heap.objs.size := Heap.lt_size ho
  have sz1 : (behindSet w s).heap.objs.size = s.heap.objs.size + 1 := Heap.size_push ..
  have n1 : l ≠ (behindSet w s).heap.objs.size := fun z => absurd (z.trans sz1) (Nat.ne_of_lt (Nat.lt_succ_of_lt lt0))
  have n2 : s.heap.objs.size ∉ [(behindSet w s).heap.objs.size, l] := by
    intro z
    have z := List.mem_cons.mp z
    rcases z with z | z
    · exact absurd (z.trans sz1) (Nat.ne_of_lt (Nat.lt_succ_self _))
    · exact absurd (List.mem_singleton.mp z) (Nat.ne_of_gt lt0)
  refine set_update_ints ((Walks.list (show A.in1.handled = none by simp [hh]) _ l n1 items).toS) s.heap.objs.size n2 ns hn hb (fun i v hv => ?_) (items.size - 0) 0 _ (by omega) (Nat.zero_le _)
    ?_ ⟨0, Nat.le_refl 0, ?_⟩ fun s' c hm hc' hS => ?_
  rotate_left
  · exact ⟨⟨_, Heap.get?_push_size _ rfl, rfl, rfl⟩, hl1.push _⟩
  · exact setR_new_at (w := w) (Heap.get?_push_of_some _ at0)
  rotate_left
  · have lt1 : i < ns.length := by rw [← hn]; exact (Array.getElem?_eq_some_iff.mp hv).1
    obtain ⟨t, et⟩ := IntsAre.int_at hi i v (by rw [Array.getElem?_toList]; exact hv)
    exact ⟨ns[i], t, List.getElem?_eq_getElem lt1, by rw [et, List.getD_eq_getElem?_getD, List.getElem?_eq_getElem lt1] <;> rfl⟩
  · obtain ⟨h', g2, d', tk, os'⟩ := s'
    have eg : g2 = s.gens := hm.gens
    have ed : d' = s.drawn := hm.drawn
    have eo : os' = s.os := hm.os
    subst eg ed eo
    show wpAny _ _ _ _ _ _
    refine wpAny_pure ?_
    show wpAny _ _ (ret Value.none) _ _ _
    refine wpAny_pure (h h' tk c ⟨hS, by omega, fun b o e => ?_⟩)
    have lt2 : b < s.heap.objs.size := Heap.lt_size e
    refine hm.heap b o (fun z => ?_) (Heap.get?_push_of_some _ (Heap.get?_push_of_some _ e))
    have z := List.mem_cons.mp z
    rcases z with z | z
    · exact absurd z (Nat.ne_of_lt lt2)
    · exact absurd ((List.mem_singleton.mp z).trans sz1) (Nat.ne_of_lt (Nat.lt_succ_of_lt lt2))
/-- set(l), l a list of ints -/
theorem set_list (hh : A.handled = none) (hl : s.heap.IsList l items) (hi : IntsAre items.toList ns) (hb : ns.length + 1 < scanBound) {Q : Value → Shared → Prop}
    (h : ∀ h' tk c, Filled w s ns h' c → Q (.ref s.heap.objs.size) { s with heap := h', toks := tk }) : wpAny (model P w) A (call (.type "set") [.ref l]) Q E s := by
  have hn : items.size = ns.length := by rw [← Array.length_toList]; exact IntsAre.length hi
  obtain ⟨c0, tl, g0⟩ := F.called_set.mro
  have g1 := F.called_set.made
  have g2 := F.called_set.sub
  have g3 := F.called_set.notType
  have g4 := F.called_set.canCreate
  have g5 := F.typeCall_set_1 (.ref l)
  refine wpAny_call (codeAny_of_tree ?_)
  show wpAny _ _ (callAny (.type "set") _) _ _ _
  refine wpAny_pure ⟨Code.quiet_builtin _ (by decide +kernel), codeAny_builtin F.entry_type_call ?_⟩
  rw [Around.under_plain (weight_type_call_type "set" [.ref l] []) rfl]
  repeat (any_goals (first | assumption | wp_step))
  refine codeAny_mono (code_set_led1 (.ref l) (E := E) (Q₁ := fun o s1 => o = .ref s.heap.objs.size ∧ s1 = behindSet w s) ⟨rfl, rfl⟩) fun r s1 hr => ?_
  match r, hr with
  | .error e, hr => exact hr
  | .ok (.ret o), hr =>
    obtain ⟨rfl, rfl⟩ := hr
    have at0 : (behindSet w s).heap.get? s.heap.objs.size = some (newSetO w) := Heap.get?_push_size _ rfl
    have hT : (behindSet w s).TypeIs (.ref s.heap.objs.size) "set" := ⟨_, at0, rfl⟩
    have g6 := F.called_set.init.lookup
    have g7 := F.called_set.init.bind (.ref s.heap.objs.size)
    repeat (any_goals (first | assumption | wp_step))
    refine codeAny_mono (codeAny_call_builtin (R := wants (fun r s2 => r = .none ∧ ∃ h' tk c, s2 = { s with heap := h', toks := tk } ∧ Filled w s ns h' c) E) F.called_set.init.plain F.entry_set_init (check_set_init_1 hT (init_list (by simp [hh]) hl hi hn hb fun h' tk c f => ⟨rfl, h', tk, c, rfl, f⟩))) fun r2 s2 hr2 => ?_
    match r2, hr2 with
    | .error e, hr2 => exact hr2
    | .ok (.ret r), hr2 =>
      obtain ⟨rfl, h', tk, c, rfl, f⟩ := hr2
      repeat (any_goals (first | assumption | wp_step))
      exact h _ _ _ f
end
end SL
namespace DL
open PySem PySem.Spec PyProof.Rows L2
section
variable {X : Cx} {W : WX}
def rSetL (X : Cx) : List V → Hp → VK → Prop := fun vs H Q => ∃ (a : Addr) (ns : List Int), vs = [V.ref a] ∧ SqL X.K H a (ns.map V.int) ∧ ns.length < 4000 ∧ ∀ p c, c ≤ ns.length → H p = none → Q (.ref p) (upd H p (SetO X.w p (fun j => decide (j ∈ ns)) c))
theorem cr_setL (hc : X.calm = true) : CallR X (.type "set") (rSetL X) := by
  intro pins s σ H vs us Q I r h
  obtain ⟨a, ns, rfl, hs, hl, q⟩ := h
  obtain rfl := Vals.ref1 r
  obtain ⟨its, rv, hp, hz⟩ := I.list hs
  refine SL.set_list (I.ok.hd hc) hp.isList rv.ints (by unfold scanBound; omega) fun h' tk c f => ?_
  exact ⟨.ref _, upd H s.heap.objs.size (SetO X.w s.heap.objs.size (fun j => decide (j ∈ ns)) c), I.laid f.old (Nat.le_refl _) (setO_new f.at_), rfl, q _ c f.few (I.hok.fresh (Nat.le_refl _))⟩
/-- sorted(set(l)), l a list of ints, fewer than 64 -/
@[reducible] def dSortSet (de : DE) : DE := fun env M q E => de env M (fun d M1 => ∃ xs ns, lsqOf M1 d = some xs ∧ intsD xs = some ns ∧ ns.length < 64 ∧ ∀ ms : List Int, ms.Pairwise (· < ·) → (∀ k, k ∈ ms ↔ k ∈ ns) → q (.lst (ms.map D.int)) M1) E
theorem pd_sortSet {e : Expr} {de : DE} {p0 p1 p2 p3 : Pos} (hc : X.calm = true) (hg : Gl X "sorted") (hm : X.mg "sorted" = none) (hg2 : Gl X "set") (hm2 : X.mg "set" = none) (he : PD X W e de)
    (hs : starEach [e] X.env = (false, eval e X.env) :: starEach [] X.env := by rfl) (hs2 : starEach [.Call (.Name "set" p1) [e] [] p2] X.env = (false, eval (.Call (.Name "set" p1) [e] [] p2) X.env) :: starEach [] X.env := by rfl) :
    PD X W (.Call (.Name "sorted" p0) [.Call (.Name "set" p1) [e] [] p2] [] p3) (dSortSet de) :=
  peImp (pe_callB (cr_sortedSet hc) hg hm (by decide +kernel) (pa_cons (pe_callTy (cr_setL hc) hg2 hm2 (by decide +kernel) (pa_cons he pa_nil hs) (he := hs)) pa_nil hs2) (he := hs2)) fun σ H Q ⟨env, M, q, E, H0, so, S, h, k, kx⟩ =>
    goE so S h kx fun x dx H1 H' M1 e1 so1 S1 rx ⟨xs, ns, ex, en, hl, w⟩ kx1 => by
      obtain ⟨a, vs, rfl, hs, rs⟩ := S1.lsq rx ex
      have z := ints_dn rs en
      subst z
      refine ⟨a, ns, rfl, hs, by omega, fun p c hc hp => ⟨p, _, c, rfl, upd_same, by omega, fun ms p2 h1 h2 h3 hp2 => ?_⟩⟩
      exact (k.mono e1).newL (S1.aside hp) (dn_ints ms) (w ms h1 fun j => (h2 j).trans (by simp)) p2 hp2
end
end DL
set_option maxRecDepth 100000
set_option maxHeartbeats 4000000
namespace DL
open PySem PySem.Spec PyProof.Rows L2
section
open SrtO Srt
variable {prog : Program} {w : World} {A : Around} {E : Value → Shared → Prop} {s : Shared}
/-- sorted(l, reverse=True): pairs with other ints -/
theorem sorted_pairSR {l : Addr} {vs : List Value} {k : Value → Int} {z : Value → PySem.Str} {Q : Value → Shared → Prop} (hl : s.heap.IsList l vs.toArray) (hz : vs.length ≤ sizeLine) (hp : ∀ v ∈ vs, IsPairS s.heap v (k v) (z v)) (hi : ∀ v ∈ vs, ∀ u ∈ vs, k v = k u → z v = z u)
    (h : ∀ (h' : Heap) (d : Addr) (out : List Value), Srtd (ltI k) out → out.Perm vs → (∀ b o, s.heap.get? b = some o → h'.get? b = some o) → s.heap.objs.size ≤ d → (∃ n, h'.get? d = some (seqObj "list" out.toArray.reverse n)) → Q (.ref d) { s with heap := h' }) :
    wpAny (model prog w) A (call (.builtin "sorted") [.ref l] [(Str.ofString "reverse", .bool true)]) Q E s := by
  refine SrtR.sorted_ordK (b := true) (fun _ => rfl) (PyProof.Rows.args_sorted_rev _ _) (fun _ => PyProof.Rows.args_list_sort_rev _ _) (swo_int k) hl hz (fun h2 h₁ a ha kk => ?_) fun out hs hb => ?_
  · refine pairS_sortable (s := { s with heap := h₁ }) (by omega) (fun v hm => (hp v hm).keeps fun b o e _ => (kk b o e).2) hi fun o e => ?_
    have e' : some o = some (seqObj "list" vs.toArray 0) := e.symm.trans ha
    cases e'
    intro c
    exact absurd (Value.type.inj c) (by decide)
  · have hb' : Stb (ltI k) out vs.reverse := hb
    refine h _ _ out hs (hb'.perm.trans (List.reverse_perm vs)) (fun b o e => sortedAll_old e) (Nat.le_succ _) ?_
    exact sortedAll_at s.heap vs out.toArray.reverse
end
def rSortPSR (K : PySem.W.Frag) : List V → List V → Hp → VK → Prop := fun vs zs H Q => ∃ (a : Addr) (xs : List V) (ps : List (Int × PySem.Str)), vs = [V.ref a] ∧ zs = [.bl true] ∧ SqL K H a xs ∧ (∀ x ∈ xs, ∃ p, p ∈ ps ∧ pairAt K H x p) ∧ (∀ p ∈ ps, ∀ q ∈ ps, p.1 = q.1 → p.2 = q.2) ∧
  ∀ (ys : List V) (p : Addr), ys.Pairwise (fun x y => ∀ p q : Int × PySem.Str, pairAt K H x p → pairAt K H y q → q.1 ≤ p.1) → ys.Perm xs → H p = none → Q (.ref p) (upd H p (.lst ys))
section
variable {X : Cx} {W : WX}
open Classical in
theorem cr_sortPSR : CallRK X (.builtin "sorted") [Str.ofString "reverse"] (rSortPSR X.K) := by
  intro pins s σ H vs zs us ws Q I r rz h
  obtain ⟨a, xs, ps, rfl, rfl, hs, hx, hi, q⟩ := h
  let g : V → Int × PySem.Str := fun v => if e : ∃ p, pairAt X.K H v p then e.choose else (0, default)
  have gok : ∀ v p, pairAt X.K H v p → g v = p := fun v p hp => by
    have e : ∃ p, pairAt X.K H v p := ⟨p, hp⟩
    have e1 : g v = e.choose := dif_pos e
    obtain ⟨t, rfl, q1⟩ := hp
    obtain ⟨t', e2, q2⟩ := e.choose_spec
    cases e2
    have z := I.tuple_inj q1 q2
    rw [e1]
    simp only [List.cons.injEq, V.int.injEq, V.str.injEq, and_true] at z
    exact Prod.ext z.1.symm z.2.symm
  obtain ⟨its, rv, hl, hz⟩ := I.list hs
  obtain ⟨u, rfl, ru⟩ := vals1 r
  obtain rfl : u = Value.ref a := ru
  obtain ⟨w1, rfl, ew⟩ := vals1 rz
  obtain rfl : w1 = Value.bool true := ew
  obtain ⟨e1, e2⟩ := refs_back rv fun x m => by
    obtain ⟨p, _, t, e, _⟩ := hx x m
    exact ⟨t, e⟩
  have mem : ∀ v ∈ its, backV v ∈ xs := fun v hv => by rw [e1]; exact List.mem_map.mpr ⟨v, hv, rfl⟩
  have gat : ∀ v ∈ xs, pairAt X.K H v (g v) := fun v hv => by
    obtain ⟨p, _, hp⟩ := hx v hv
    rw [gok v p hp]; exact hp
  have gin : ∀ v ∈ xs, g v ∈ ps := fun v hv => by
    obtain ⟨p, hm, hp⟩ := hx v hv
    rw [gok v p hp]; exact hm
  refine sorted_pairSR (k := fun u => (g (backV u)).1) (z := fun u => (g (backV u)).2) hl.isList (by rw [← rv.length]; exact hz) (fun v hv => ?_) (fun v hv u hu => hi _ (gin _ (mem v hv)) _ (gin _ (mem u hu))) fun h' d out h1 h2 kp hd hn => ?_
  · obtain ⟨t, rfl⟩ := e2 v hv
    obtain ⟨t', et, ht⟩ := gat _ (mem _ hv)
    cases et
    obtain ⟨its2, rv2, ⟨o, ho, hc, n, hdt⟩, _⟩ := I.tuple ht
    obtain ⟨u1, u2, rfl, r1, r2⟩ := vals2 rv2
    obtain ⟨t1, rfl⟩ := r1
    obtain ⟨t2, rfl⟩ := r2
    exact ⟨t, o, t1, t2, n, rfl, ho, hc, hdt⟩
  · have h3 : ∀ u ∈ out.reverse, ∃ a, u = Value.ref a := fun u hu => e2 u (h2.mem_iff.mp (List.mem_reverse.mp hu))
    obtain ⟨n, hn⟩ := hn
    rw [List.reverse_toArray] at hn
    have hb : (out.reverse.map backV).Perm xs := by rw [e1]; exact ((List.reverse_perm out).trans h2).map backV
    refine ⟨.ref d, upd H d (.lst (out.reverse.map backV)), I.laid (t' := s.toks) kp hd ⟨?_, out.reverse, n, vals_back h3, hn⟩, rfl, q _ d ?_ hb (I.hok.fresh hd)⟩
    · rw [hb.length_eq]
      exact hz
    · rw [List.pairwise_map, List.pairwise_reverse]
      exact h1.imp fun h p q hp hq => by
        rw [← gok _ p hp, ← gok _ q hq]
        exact Int.not_lt.mp (of_decide_eq_false h)
/-- sorted(e, reverse=True), e a list of pairs -/
@[reducible] def dSortPR (de : DE) : DE := fun env M q E => de env M (fun d M1 => ∃ (xs : List D) (ps : List (Int × PySem.Str)), lsqOf M1 d = some xs ∧ pairsD xs = some ps ∧ (∀ a ∈ ps, ∀ b ∈ ps, a.1 = b.1 → a.2 = b.2) ∧ ∀ ps' : List (Int × PySem.Str), ps'.Perm ps → ps'.Pairwise (fun a b => b.1 ≤ a.1) → q (.lst (ps'.map pairD)) M1) E
theorem pd_sortPR {e : Expr} {de : DE} {j : Nat} {p0 p1 p2 p3 : Pos} (hg : Gl X "sorted") (hm : X.mg "sorted" = none) (he : PD X W e de)
    (hs : backTo p3 (starEach [e] X.env) = (false, eval e X.env) :: backTo p3 (starEach [] X.env) := by rfl) (hpl : (backTo p3 (starEach [e] X.env)).any (·.1) = false := by rfl)
    (hs1 : starEach [e] X.env = (false, eval e X.env) :: starEach [] X.env := by rfl)
    (hall : (backToKw p3 (keywordEach [⟨some (Str.ofString "reverse"), .Constant (.bool true) j p1, p2⟩] X.env)).all (·.1.isSome) = true := by rfl) (hnone : (backToKw p3 (keywordEach [⟨some (Str.ofString "reverse"), .Constant (.bool true) j p1, p2⟩] X.env)).any (·.1.isNone) = false := by rfl)
    (hks : (backToKw p3 (keywordEach [⟨some (Str.ofString "reverse"), .Constant (.bool true) j p1, p2⟩] X.env)).filterMap (·.1) = [Str.ofString "reverse"] := by rfl) :
    PD X W (.Call (.Name "sorted" p0) [e] [⟨some (Str.ofString "reverse"), .Constant (.bool true) j p1, p2⟩] p3) (dSortPR de) :=
  peImp (pe_callBK cr_sortPSR hg hm (by decide +kernel) (pa_cons he pa_nil hs1) (pk_cons pe_bl pk_nil) (he := hs) (hpl := hpl) (hall := hall) (hnone := hnone) (hks := hks)) fun σ H Q ⟨env, M, q, E, H0, so, S, h, k, kx⟩ =>
    goE so S h kx fun x dx H1 H' M1 e1 so1 S1 rx ⟨xs, ps, ex, ep, hi, w⟩ kx1 => by
      obtain ⟨a, vs, rfl, hs, rs⟩ := S1.lsq rx ex
      have eq := pairsD_eq ep
      subst eq
      have ex : ∀ x ∈ vs, ∃ p ∈ ps, Dn X.K H1 x (pairD p) := fun x hx => by
        obtain ⟨n, hn⟩ := List.getElem?_of_mem hx
        obtain ⟨dd, h1, h2⟩ := rs.getV hn
        rw [List.getElem?_map] at h1
        obtain ⟨p, hp, rfl⟩ := omap h1
        exact ⟨p, List.mem_of_getElem? hp, h2⟩
      refine ⟨a, vs, ps, rfl, rfl, hs, fun x hx => ?_, hi, fun us b hs2 hp hb => ?_⟩
      · obtain ⟨p, m, z⟩ := ex x hx
        exact ⟨p, m, dn_pair (z.mono S1.ex)⟩
      · obtain ⟨es, pe, re⟩ := rs.perm hp
        obtain ⟨ps', pp, rfl⟩ := map_pairs pe
        exact (k.mono e1).newL S1 re (w ps' pp (dn_pw (fun x y p q h1 h2 z => z p q (dn_pair (h1.mono S1.ex)) (dn_pair (h2.mono S1.ex))) re hs2)) b hb
end
end DL
set_option maxRecDepth 100000
set_option maxHeartbeats 4000000
namespace DL
open PySem PySem.Spec PyProof.Rows L2 PySem.Calls
end DL
set_option maxRecDepth 100000
set_option maxHeartbeats 4000000
namespace DL
open PySem PySem.Spec PyProof.Rows L2
theorem zipD_map {α β : Type} (e : α → D) (e' : β → D) : ∀ (xs : List α) (ys : List β), zipD (xs.map e) (ys.map e') = (xs.zip ys).map fun p => .tup [e p.1, e' p.2]
  | [], _ => rfl
  | _ :: _, [] => rfl
  | x :: xs, y :: ys => by
    show .tup [e x, e' y] :: zipD (xs.map e) (ys.map e') = _
    rw [zipD_map e e' xs ys]; rfl
section
variable {α : Type} {ok : Mem → Prop} {g : GD} {body : DS} {d : EndD}
theorem for_map (emb : α → D) {xs : List α} (I : Nat → EnvD → Mem → Prop) (h0 : ∀ env M, I xs.length env M → ok M ∧ d.nx env M)
    (hs : ∀ i x env M, xs[i]? = some x → I i env M → ∀ nx : EnvD → Mem → Prop, (∀ env' M', I (i + 1) env' M' → nx env' M') → ok M ∧ g (emb x) env M (fun env' M' => body { d with nx := nx, ct := nx, bk := d.nx } env' M') d.ex) (env : EnvD) (M : Mem) (h : I 0 env M) : forW ok g body d (xs.map emb) env M := by
  refine for_lst I (by rw [List.length_map]; exact h0) (fun i x env M hx hI nx hn => ?_) env M h
  rw [List.getElem?_map] at hx
  obtain ⟨y, hy, rfl⟩ := omap hx
  exact hs i y env M hy hI nx hn
end
section
variable {α β : Type} {ok : Mem → Prop} {g : GD} {t : DT} {de : DE} {env : EnvD} {q : QD} {c : Addr} {M : Mem}
theorem lc_map (emb : α → D) (p : α → Bool) (f : α → D) {xs : List α} (hc : M c = none) (hn : xs.length ≤ sizeLine) (hok : ∀ acc, ok (mset M c (.ls acc)))
    (hs : ∀ x, x ∈ xs → ∀ (acc : List D), acc.length < sizeLine → ∀ nx : Mem → Prop, (p x = true → nx (mset M c (.ls (acc ++ [f x])))) → (p x = false → nx (mset M c (.ls acc))) →
      g (emb x) env (mset M c (.ls acc)) (fun env' M' => t env' M' (fun b M2 => if b = true then de env' M2 (fun y M3 => ∃ ys, M3 c = some (.ls ys) ∧ ys.length < sizeLine ∧ nx (mset M3 c (.ls (ys ++ [y])))) noX else nx M2) noX) (fun _ => noX))
    (hq : q (.lst ((xs.filter p).map f)) M) : lcW ok g t de env q c (xs.map emb) (mset M c (.ls [])) := by
  refine lc_lst (fun i M' => M' = mset M c (.ls (((xs.take i).filter p).map f))) (fun M' e => ?_) (fun i x M' hx e nx hnx => ?_) _ (by rw [List.take_zero]; rfl)
  · subst e
    rw [List.length_map, List.take_length]
    refine ⟨hok _, _, mset_same, ?_⟩
    rw [mdel_mset hc]; exact hq
  · subst e
    rw [List.getElem?_map] at hx
    obtain ⟨y, hy, rfl⟩ := omap hx
    have hi := (List.getElem?_eq_some_iff.mp hy).1
    have e1 : xs.take (i + 1) = xs.take i ++ [y] := by rw [List.take_add_one, hy]; rfl
    refine ⟨hok _, hs y (List.mem_of_getElem? hy) _ ?_ nx (fun hp => ?_) fun hp => ?_⟩
    · rw [List.length_map]
      have h1 := List.length_filter_le p (xs.take i)
      rw [List.length_take] at h1
      omega
    · refine hnx _ ?_
      rw [e1, List.filter_append, List.map_append, List.filter_cons, if_pos hp]; rfl
    · refine hnx _ ?_
      rw [e1, List.filter_append, List.map_append, List.filter_cons, if_neg (by rw [hp]; exact Bool.false_ne_true), List.filter_nil, List.map_nil, List.append_nil]
/-- no test -/
theorem lc_all (emb : α → D) (f : α → D) {xs : List α} (hc : M c = none) (hn : xs.length ≤ sizeLine) (hok : ∀ acc, ok (mset M c (.ls acc)))
    (hs : ∀ x, x ∈ xs → ∀ (acc : List D), acc.length < sizeLine → ∀ nx : Mem → Prop, nx (mset M c (.ls (acc ++ [f x]))) →
      g (emb x) env (mset M c (.ls acc)) (fun env' M' => t env' M' (fun b M2 => if b = true then de env' M2 (fun y M3 => ∃ ys, M3 c = some (.ls ys) ∧ ys.length < sizeLine ∧ nx (mset M3 c (.ls (ys ++ [y])))) noX else nx M2) noX) (fun _ => noX))
    (hq : q (.lst (xs.map f)) M) : lcW ok g t de env q c (xs.map emb) (mset M c (.ls [])) :=
  lc_map emb (fun _ => true) f hc hn hok (fun x hx acc hz nx h1 _ => hs x hx acc hz nx (h1 rfl)) (by rw [List.filter_eq_self.mpr fun _ _ => rfl]; exact hq)
theorem lc2_map {di1 : DI} {g1 : GD} {t1 : DT} {vs1 : List Nat} (emb : α → D) (f : α → List D) {xs : List α} (hc : M c = none) (hn : (xs.flatMap f).length ≤ sizeLine) (hok : ∀ acc, ok (mset M c (.ls acc)))
    (hs : ∀ x, x ∈ xs → ∀ (acc : List D), acc.length + (f x).length ≤ sizeLine → ∀ nx : Mem → Prop, nx (mset M c (.ls (acc ++ f x))) →
      g (emb x) env (mset M c (.ls acc)) (fun env' M' => t env' M' (fun b M2 => if b = true then di1 env' M2 (fun items1 ok1 M3 => inW ok1 g1 t1 de (wipeD env' vs1) c (fun M4 => nx M4) items1 M3) noX else nx M2) noX) (fun _ => noX))
    (hq : q (.lst (xs.flatMap f)) M) : lc2W ok g t di1 g1 t1 de vs1 env q c (xs.map emb) (mset M c (.ls [])) := by
  refine lc2_lst (fun i M' => M' = mset M c (.ls ((xs.take i).flatMap f))) (fun M' e => ?_) (fun i x M' hx e nx hnx => ?_) _ (by rw [List.take_zero]; rfl)
  · subst e
    rw [List.length_map, List.take_length]
    refine ⟨hok _, _, mset_same, ?_⟩
    rw [mdel_mset hc]; exact hq
  · subst e
    rw [List.getElem?_map] at hx
    obtain ⟨y, hy, rfl⟩ := omap hx
    have hi := (List.getElem?_eq_some_iff.mp hy).1
    have e1 : xs.take (i + 1) = xs.take i ++ [y] := by rw [List.take_add_one, hy]; rfl
    have e2 : (xs.take (i + 1)).flatMap f = (xs.take i).flatMap f ++ f y := by rw [e1, List.flatMap_append]; simp
    refine ⟨hok _, hs y (List.mem_of_getElem? hy) _ ?_ nx (hnx _ (by rw [e2]))⟩
    rw [← List.length_append, ← e2]
    refine Nat.le_trans ?_ hn
    conv => rhs; rw [← List.take_append_drop (i + 1) xs, List.flatMap_append, List.length_append]
    omega
theorem in_map {nx0 : Mem → Prop} {acc : List D} (emb : β → D) (f : β → D) {xs : List β} (hn : acc.length + xs.length ≤ sizeLine) (hok : ∀ acc, ok (mset M c (.ls acc)))
    (hs : ∀ x, x ∈ xs → ∀ (acc : List D), acc.length < sizeLine → ∀ nx : Mem → Prop, nx (mset M c (.ls (acc ++ [f x]))) →
      g (emb x) env (mset M c (.ls acc)) (fun env' M' => t env' M' (fun b M2 => if b = true then de env' M2 (fun y M3 => ∃ ys, M3 c = some (.ls ys) ∧ ys.length < sizeLine ∧ nx (mset M3 c (.ls (ys ++ [y])))) noX else nx M2) noX) (fun _ => noX))
    (hq : nx0 (mset M c (.ls (acc ++ xs.map f)))) : inW ok g t de env c nx0 (xs.map emb) (mset M c (.ls acc)) := by
  refine in_lst (fun i M' => M' = mset M c (.ls (acc ++ (xs.take i).map f))) (fun M' e => ?_) (fun i x M' hx e nx hnx => ?_) _ (by rw [List.take_zero, List.map_nil, List.append_nil])
  · subst e
    rw [List.length_map, List.take_length]
    exact ⟨hok _, hq⟩
  · subst e
    rw [List.getElem?_map] at hx
    obtain ⟨y, hy, rfl⟩ := omap hx
    have hi := (List.getElem?_eq_some_iff.mp hy).1
    refine ⟨hok _, hs y (List.mem_of_getElem? hy) _ ?_ nx (hnx _ ?_)⟩
    · rw [List.length_append, List.length_map, List.length_take]; omega
    · rw [List.take_add_one, hy, List.map_append, List.append_assoc]; rfl
end
end DL
set_option maxRecDepth 100000
set_option maxHeartbeats 1000000
namespace R
open PySem PySem.Spec PyProof.Rows L2 DL
local macro_rules | `(tactic| bv_omega) => `(tactic| first | assumption | exact mset_same)
local macro_rules | `(tactic| symm) => `(tactic| first
  | ((with_reducible show ∃ _, _ = _ ∧ _); refine ⟨_, rfl, ?_⟩)
  | ((with_reducible show _ = _ ∧ _); refine ⟨rfl, ?_⟩)
  | ((with_reducible show ∃ _ _, _ = _ ∧ _ = _ ∧ _); refine ⟨_, _, rfl, rfl, ?_⟩)
  | ((with_reducible show ∃ _ _, _ = _ ∧ _); refine ⟨_, _, rfl, ?_⟩)
  | ((with_reducible show ∃ _ _ _, _ = _ ∧ _); refine ⟨_, _, _, rfl, ?_⟩)
  | ((with_reducible show (_ ≤ _ ∧ _) ∧ _); refine ⟨by omega, ?_⟩)
  | with_reducible refine add_int ?_ | with_reducible refine sub_int ?_
  | with_reducible refine lt_int ?_ | with_reducible refine le_int ?_ | with_reducible refine gt_int ?_ | with_reducible refine ge_int ?_
  | with_reducible refine int_int ?_
  | with_reducible refine eq_int ?_ | with_reducible refine ne_int ?_
  | with_reducible refine len_tup ?_ | with_reducible refine len_lst ?_
  | ((with_reducible show rdIx (.cel _) (.int _) _ _); refine ix_cel (by bv_omega) (by rfl) ?_)
  | ((with_reducible show rdIx (.lst _) (.int _) _ _); refine ix_lst (by rfl) ?_)
  | ((with_reducible show rdIx (.tup _) (.int _) _ _); refine ix_tup (by rfl) ?_)
  | ((with_reducible show rdLen [.cel _] _ _); refine len_cel (by bv_omega) ?_)
  | ((with_reducible show rdMul (.int _) (.int _) _ _); first | refine mul_l (by decide) (by decide) ?_ | refine mul_r (by decide) (by decide) ?_ | refine mul_l (by omega) (by omega) ?_ | refine mul_r (by omega) (by omega) ?_)
  | ((with_reducible show rdDiv (.int _) (.int _) _ _); refine div_int (by first | decide | assumption | omega) (by first | decide | assumption | omega) ?_)
  | ((with_reducible show rdDivmod [.int _, .int _] _ _); refine dm_int (by first | decide | assumption | omega) (by first | decide | assumption | omega) ?_)
  | ((with_reducible show @ite _ (_ = true) _ _ _); first | refine ifYes (by first | with_reducible rfl | exact Bool.not_false | assumption) ?_ | refine ifNo (by first | with_reducible rfl | exact Bool.not_true | assumption) ?_)
  | ((with_reducible show ∃ _, _ ∧ _); refine ⟨_, celL_of (by bv_omega), ?_⟩)
  | ((with_reducible show ∃ _ _ _ _, _ ∧ _ ∧ _ ∧ _ ∧ _); refine ⟨_, _, _, _, rfl, rfl, by bv_omega, by rfl, ?_⟩)
  | ((with_reducible show (_ : Nat) ≤ sizeLine ∧ _); refine ⟨by rw [sizeLine_eq]; exact Nat.le_of_ble_eq_true rfl, ?_⟩))
local macro_rules | `(tactic| infer_instance) => `(tactic| ((repeat symm); try dsimp only))
local macro_rules | `(tactic| ac_rfl) => `(tactic| ((repeat (first | symm | ((with_reducible show rdMod (.int _) (.int _) _ _); refine mod_any (by first | decide | assumption | omega) ?_; intro _ _ _))); try dsimp only))
theorem way_ex {size p : Int} : ∀ {ms : List Int}, ms ≠ [] → ∃ m, IsWay size p ms m := by
  intro ms hne
  have key : ∀ xs : List Int, xs ≠ [] → ∃ m ∈ xs, ∀ y ∈ xs, m ≤ y := by
    intro xs
    induction xs with
    | nil => intro h; exact absurd rfl h
    | cons a r ih =>
      intro _
      by_cases hr : r = []
      · subst hr; exact ⟨a, by simp, fun y hy => by rw [List.mem_singleton.mp hy]; exact Int.le_refl _⟩
      · obtain ⟨m, hm, hle⟩ := ih hr
        by_cases h : a ≤ m
        · exact ⟨a, by simp, fun y hy => by rcases List.mem_cons.mp hy with rfl | hy; exact Int.le_refl _; exact Int.le_trans h (hle y hy)⟩
        · exact ⟨m, List.mem_cons_of_mem _ hm, fun y hy => by rcases List.mem_cons.mp hy with rfl | hy; omega; exact hle y hy⟩
  obtain ⟨m, hm, hle⟩ := key (ms.map fun k => (k - p) % size) (by simpa using hne)
  exact ⟨m, hm, hle⟩
theorem walk_ex {size : Int} {hs : List Host} (hc : CrewOk size hs) (p : Int) : ∃ ns, WalkOf size p hs ns := by
  have hex : ∀ h ∈ hs, ∃ m, IsWay size p h.marks m := fun h hh => way_ex fun z => by have := (crew_marks hc h hh).ne; rw [z] at this; simp at this
  have key : ∀ l : List Host, (∀ h ∈ l, ∃ m, IsWay size p h.marks m) → ∃ ws : List (Int × Str), ws.map (·.2) = l.map (·.name) ∧ ∀ a ∈ ws, ∃ h ∈ l, h.name = a.2 ∧ IsWay size p h.marks a.1 := by
    intro l
    induction l with
    | nil => intro _; exact ⟨[], rfl, fun a ha => by simp at ha⟩
    | cons h l ih =>
      intro hh
      obtain ⟨ws, e, ha⟩ := ih fun x hx => hh x (List.mem_cons_of_mem _ hx)
      obtain ⟨m, hm⟩ := hh h (by simp)
      refine ⟨(m, h.name) :: ws, by simp [e], fun a haa => ?_⟩
      rcases List.mem_cons.mp haa with rfl | haa
      · exact ⟨h, by simp, rfl, hm⟩
      · obtain ⟨o, ho, z⟩ := ha a haa
        exact ⟨o, List.mem_cons_of_mem _ ho, z⟩
  obtain ⟨ws, e, ha⟩ := key hs hex
  have hp := List.mergeSort_perm ws (fun a b => decide (a.1 ≤ b.1))
  have hs2 := List.pairwise_mergeSort (le := fun a b : Int × Str => decide (a.1 ≤ b.1)) (fun a b c h1 h2 => by simp at h1 h2 ⊢; omega) (fun a b => by simp; omega) ws
  refine ⟨_, ws.mergeSort (fun a b => decide (a.1 ≤ b.1)), hs2.imp fun h => by simpa using h, rfl, ?_, fun a haa => ha a (hp.mem_iff.mp haa)⟩
  rw [← e]
  exact hp.map _
open Classical in
noncomputable def walkF (size : Int) (hs : List Host) (p : Int) : List Str := if h : ∃ ns, WalkOf size p hs ns then h.choose else []
theorem walkF_ok {size : Int} {hs : List Host} (hc : CrewOk size hs) (p : Int) : WalkOf size p hs (walkF size hs p) := by
  unfold walkF
  rw [dif_pos (walk_ex hc p)]
  exact (walk_ex hc p).choose_spec
theorem walk_eq {size : Int} {hs : List Host} (hc : CrewOk size hs) {p : Int} {ns : List Str} (h : WalkOf size p hs ns) : ns = walkF size hs p := walk_uniq hc h (walkF_ok hc p)
theorem mod_shift {size x d : Int} (s0 : 0 < size) (h0 : 0 ≤ d) (h : d ≤ x % size) : (x - d) % size = x % size - d := by
  have h1 := Int.emod_lt_of_pos x s0
  have h2 : x - d = (x % size - d) + size * (x / size) := by have := Int.emod_add_mul_ediv x size; omega
  rw [h2, Int.add_mul_emod_self_left]
  exact Int.emod_eq_of_lt (by omega) (by omega)
theorem way_shift {size p d : Int} (s0 : 0 < size) (h0 : 0 ≤ d) {ms : List Int} (hd : ∀ k ∈ ms, d ≤ (k - p) % size) {m : Int} (h : IsWay size p ms m) : IsWay size (p + d) ms (m - d) := by
  have key : ∀ k ∈ ms, (k - (p + d)) % size = (k - p) % size - d := fun k hk => by
    rw [show k - (p + d) = (k - p) - d by omega]; exact mod_shift s0 h0 (hd k hk)
  obtain ⟨h1, h2⟩ := h
  obtain ⟨k, hk, e⟩ := List.mem_map.mp h1
  refine ⟨List.mem_map.mpr ⟨k, hk, ?_⟩, fun y hy => ?_⟩
  · show (k - (p + d)) % size = m - d
    rw [key k hk]; omega
  · obtain ⟨j, hj, rfl⟩ := List.mem_map.mp hy
    have := h2 _ (List.mem_map.mpr ⟨j, hj, rfl⟩)
    show m - d ≤ (j - (p + d)) % size
    rw [key j hj]; omega
/-- no mark on the way: the same walk -/
theorem walk_shift {size p d : Int} (s0 : 0 < size) (h0 : 0 ≤ d) {hs : List Host} (hc : CrewOk size hs) (hd : ∀ h ∈ hs, ∀ k ∈ h.marks, d ≤ (k - p) % size) : walkF size hs (p + d) = walkF size hs p := by
  obtain ⟨ws, s1, e1, p1, a1⟩ := walkF_ok hc p
  symm
  refine walk_eq hc ⟨ws.map fun a => (a.1 - d, a.2), ?_, ?_, ?_, ?_⟩
  · rw [List.pairwise_map]; exact s1.imp fun h => by dsimp only; omega
  · rw [e1, List.map_map]; rfl
  · rw [List.map_map]; exact p1
  · intro a ha
    obtain ⟨b, hb, rfl⟩ := List.mem_map.mp ha
    obtain ⟨h, hh, en, w⟩ := a1 b hb
    exact ⟨h, hh, en, way_shift s0 h0 (hd h hh) w⟩
theorem walk_mod {size p : Int} {hs : List Host} (hc : CrewOk size hs) : walkF size hs (p + size) = walkF size hs p := by
  obtain ⟨ws, s1, e1, p1, a1⟩ := walkF_ok hc p
  symm
  refine walk_eq hc ⟨ws, s1, e1, p1, fun a ha => ?_⟩
  obtain ⟨h, hh, en, w⟩ := a1 a ha
  refine ⟨h, hh, en, ?_⟩
  have e : (fun k => (k - (p + size)) % size) = fun k => (k - p) % size := by
    funext k
    rw [show k - (p + size) = (k - p) + size * (-1) by omega, Int.add_mul_emod_self_left]
  unfold IsWay at w ⊢
  rw [e]; exact w
/-- at a mark: its host first, then the others as from behind it -/
theorem walk_front {size k : Int} (s1 : 1 ≤ size) {hs : List Host} (hc : CrewOk size hs) {h : Host} (hh : h ∈ hs) (hk : k ∈ h.marks) : walkF size hs k = h.name :: (walkF size hs (k + 1)).filter fun x => !decide (x = h.name) := by
  obtain ⟨ws, q1, e1, p1, a1⟩ := walkF_ok hc (k + 1)
  have k01 := (crew_marks hc h hh).inn k hk
  symm
  refine walk_eq hc ⟨(0, h.name) :: (ws.filter fun a => !decide (a.2 = h.name)).map fun a => (a.1 + 1, a.2), ?_, ?_, ?_, ?_⟩
  · refine .cons (fun a ha => ?_) ?_
    · obtain ⟨b, hb, rfl⟩ := List.mem_map.mp ha
      obtain ⟨o, ho, eo, w, _⟩ := a1 b (List.mem_filter.mp hb).1
      obtain ⟨j, hj, ej⟩ := List.mem_map.mp w
      have := Int.emod_nonneg (j - (k + 1)) (show size ≠ 0 by omega)
      dsimp only at ej ⊢; omega
    · rw [List.pairwise_map]; exact (q1.filter _).imp fun h => by dsimp only; omega
  · rw [e1, List.map_cons, List.map_map, List.filter_map]
    rfl
  · rw [List.map_cons, List.map_map]
    have hn := crew_nodup hc
    have nd : (ws.map (·.2)).Nodup := p1.nodup_iff.mpr hn
    have e2 : List.map ((fun a : Int × Str => a.2) ∘ fun a => (a.1 + 1, a.2)) (ws.filter fun a => !decide (a.2 = h.name)) = (ws.map (·.2)).filter fun x => !decide (x = h.name) := by
      rw [List.filter_map]; rfl
    rw [e2]
    have hm : h.name ∈ ws.map (·.2) := p1.mem_iff.mpr (List.mem_map.mpr ⟨h, hh, rfl⟩)
    refine List.Perm.trans ?_ p1
    refine (List.perm_ext_iff_of_nodup ?_ nd).mpr fun x => ?_
    · refine List.nodup_cons.mpr ⟨fun z => ?_, nd.filter _⟩
      have := (List.mem_filter.mp z).2
      simp at this
    · by_cases hx : x = h.name
      · subst hx; simp only [List.mem_cons, true_or, true_iff]; exact hm
      · simp [hx]
  · intro a ha
    rcases List.mem_cons.mp ha with rfl | ha
    · refine ⟨h, hh, rfl, List.mem_map.mpr ⟨k, hk, by simp⟩, fun y hy => ?_⟩
      obtain ⟨j, hj, rfl⟩ := List.mem_map.mp hy
      exact Int.emod_nonneg _ (by omega)
    · obtain ⟨b, hb, rfl⟩ := List.mem_map.mp ha
      obtain ⟨hb1, hb2⟩ := List.mem_filter.mp hb
      obtain ⟨o, ho, eo, w⟩ := a1 b hb1
      have hne : o ≠ h := fun e => by subst e; simp [eo] at hb2
      refine ⟨o, ho, eo, ?_⟩
      have hd : ∀ j ∈ o.marks, 1 ≤ (j - k) % size := fun j hj => by
        have h1 := Int.emod_nonneg (j - k) (show size ≠ 0 by omega)
        refine Decidable.byContradiction fun hn => hne ?_
        have e0 : (j - k) % size = (k - k) % size := by rw [show k - k = 0 by omega, Int.zero_emod]; omega
        have := mod_inj ((crew_marks hc o ho).inn j hj) k01 e0
        subst this
        exact crew_apart hc ho hh hj hk
      have key : ∀ j ∈ o.marks, (j - (k + 1)) % size = (j - k) % size - 1 := fun j hj => by
        rw [show j - (k + 1) = (j - k) - 1 by omega]; exact mod_shift (by omega) (by omega) (hd j hj)
      obtain ⟨w1, w2⟩ := w
      obtain ⟨j, hj, ej⟩ := List.mem_map.mp w1
      refine ⟨List.mem_map.mpr ⟨j, hj, ?_⟩, fun y hy => ?_⟩
      · have := key j hj
        dsimp only at ej ⊢; omega
      · obtain ⟨i, hi, rfl⟩ := List.mem_map.mp hy
        have h1 := w2 _ (List.mem_map.mpr ⟨i, hi, rfl⟩)
        have h2 := key i hi
        dsimp only at h1 ⊢; omega
/-- the keepers of a key -/
noncomputable def keepF (size : Int) (r : Rule) (hs : List Host) (p : Int) : List Str := keepersOf r hs (walkF size hs p)
def insA (a : Int) : List Int → List Int
  | [] => [a]
  | b :: r => if a < b then a :: b :: r else if a = b then b :: r else b :: insA a r
def ascF (xs : List Int) : List Int := xs.foldr insA []
theorem insA_mem {a x : Int} : ∀ {l : List Int}, x ∈ insA a l ↔ x = a ∨ x ∈ l
  | [] => by simp [insA]
  | b :: r => by
    unfold insA
    split
    · simp
    · split
      · rename_i h; subst h; simp
      · rw [List.mem_cons, insA_mem, List.mem_cons]
        constructor
        · rintro (h | h | h)
          · exact .inr (.inl h)
          · exact .inl h
          · exact .inr (.inr h)
        · rintro (h | h | h)
          · exact .inr (.inl h)
          · exact .inl h
          · exact .inr (.inr h)
theorem insA_pw {a : Int} : ∀ {l : List Int}, l.Pairwise (· < ·) → (insA a l).Pairwise (· < ·)
  | [], _ => by simp [insA]
  | b :: r, h => by
    unfold insA
    rw [List.pairwise_cons] at h
    split
    · rename_i hab
      refine List.pairwise_cons.mpr ⟨fun y hy => ?_, List.pairwise_cons.mpr h⟩
      rcases List.mem_cons.mp hy with rfl | hy
      · exact hab
      · exact Int.lt_trans hab (h.1 y hy)
    · split
      · exact List.pairwise_cons.mpr h
      · rename_i h1 h2
        refine List.pairwise_cons.mpr ⟨fun y hy => ?_, insA_pw h.2⟩
        rcases insA_mem.mp hy with rfl | hy
        · omega
        · exact h.1 y hy
theorem ascF_mem {x : Int} : ∀ {xs : List Int}, x ∈ ascF xs ↔ x ∈ xs
  | [] => by simp [ascF]
  | a :: r => by
    show x ∈ insA a (ascF r) ↔ _
    rw [insA_mem, ascF_mem (xs := r), List.mem_cons]
theorem ascF_pw : ∀ {xs : List Int}, (ascF xs).Pairwise (· < ·)
  | [] => by simp [ascF]
  | a :: r => by show (insA a (ascF r)).Pairwise _; exact insA_pw (ascF_pw (xs := r))
theorem insA_len {a : Int} : ∀ {l : List Int}, (insA a l).length ≤ l.length + 1
  | [] => by simp [insA]
  | b :: r => by
    unfold insA
    have := insA_len (a := a) (l := r)
    split
    · simp
    · split
      · simp
      · simp; omega
theorem ascF_len : ∀ {xs : List Int}, (ascF xs).length ≤ xs.length
  | [] => by simp [ascF]
  | a :: r => by
    show (insA a (ascF r)).length ≤ _
    have h1 := insA_len (a := a) (l := ascF r)
    have h2 := ascF_len (xs := r)
    rw [List.length_cons]; omega
theorem asc_uniq : ∀ {xs ys : List Int}, xs.Pairwise (· < ·) → ys.Pairwise (· < ·) → (∀ k, k ∈ xs ↔ k ∈ ys) → xs = ys := fun {xs ys} h1 h2 hm => by
  have n1 : xs.Nodup := h1.imp fun h => Int.ne_of_lt h
  have n2 : ys.Nodup := h2.imp fun h => Int.ne_of_lt h
  have hp : xs.Perm ys := (List.perm_ext_iff_of_nodup n1 n2).mpr hm
  exact sorted_uniq (W := id) hp h1 h2
/-- the marks of these hosts, ascending -/
def crewM (hs : List Host) : List Int := hs.flatMap (·.marks)
def allM (hs : List Host) : List Int := ascF (crewM hs)
theorem allM_mem {hs : List Host} {k : Int} : k ∈ allM hs ↔ ∃ h ∈ hs, k ∈ h.marks := by
  unfold allM crewM; rw [ascF_mem, List.mem_flatMap]
theorem asc_all {hs : List Host} {ms : List Int} (h : ms.Pairwise (· < ·)) (hm : ∀ k, k ∈ ms ↔ k ∈ crewM hs) : ms = allM hs := asc_uniq h ascF_pw fun k => (hm k).trans ascF_mem.symm
def partL (size : Int) : Int → List Int → List (Int × Int × Int)
  | _, [] => []
  | b, m :: r => ((b + 1) % size, (m - b - 1) % size + 1, m) :: partL size m r
def partF (size : Int) (ms : List Int) : List (Int × Int × Int) := partL size (ms.getLastD 0) ms
theorem partL_len {size : Int} : ∀ {b : Int} {ms : List Int}, (partL size b ms).length = ms.length
  | _, [] => rfl
  | _, m :: r => by show (partL size m r).length + 1 = r.length + 1; rw [partL_len]
theorem partL_edge {size : Int} : ∀ {b : Int} {ms : List Int}, (partL size b ms).map (·.2.2) = ms
  | _, [] => rfl
  | _, m :: r => by show m :: (partL size m r).map (·.2.2) = _; rw [partL_edge]
theorem partL_zip {size : Int} : ∀ {b : Int} {ms : List Int}, ((b :: ms).zip ms).map (fun p => ((p.1 + 1) % size, (p.2 - p.1 - 1) % size + 1, p.2)) = partL size b ms
  | _, [] => rfl
  | b, m :: r => by
    show (_, _, m) :: ((m :: r).zip r).map _ = _
    rw [partL_zip (b := m) (ms := r)]; rfl
/-- one cell, as the program tells it -/
noncomputable def cellD (size : Int) (r : Rule) (hs : List Host) (t : Int × Int × Int) : D := .tup [.int t.1, .int t.2.1, strsT (keepF size r hs t.2.2)]
noncomputable def cellsL (size : Int) (r : Rule) (hs : List Host) : List D := (partF size (allM hs)).map (cellD size r hs)
def sd_check_ring (C : Addr) : SpD := fun ds M q _ => ∃ (size : Int) (r : Rule) (hs : List Host), ds = [ringD C size r hs] ∧ q .non M
def sd_all_marks (C : Addr) : SpD := fun ds M q _ => ∃ hs : List Host, ds = [crewD hs] ∧ (crewM hs).length < 64 ∧ q (.lst ((allM hs).map D.int)) M
def sd_arcs_up_to (C : Addr) : SpD := fun ds M q _ => ∃ (ms : List Int) (size : Int), ds = [.lst (ms.map D.int), .int size] ∧ 0 < size ∧ ms ≠ [] ∧ ms.length ≤ 1000 ∧ q (.lst ((partF size ms).map fun t => .tup [.int t.1, .int t.2.1])) M
def sd_ahead (C : Addr) : SpD := fun ds M q _ => ∃ (x : Str) (ns : List Str), ds = [.str x, strsT ns] ∧ ns.length ≤ 12 ∧ q (strsT (x :: ns.filter fun y => !decide (y = x))) M
def sd_walks (C : Addr) : SpD := fun ds M q _ => ∃ (size : Int) (r : Rule) (hs : List Host), ds = [ringD C size r hs] ∧ 1 ≤ size ∧ CrewOk size hs ∧ ∀ M', Kept M M' → q (.lst ((allM hs).map fun m => .tup [.int m, strsT (walkF size hs m)])) M'
def sd_keepers_at (C : Addr) : SpD := fun ds M q _ => ∃ (size : Int) (r : Rule) (hs : List Host) (ks : List Int), ds = [ringD C size r hs, .lst (ks.map D.int)] ∧ 1 ≤ size ∧ CrewOk size hs ∧ RuleOk r ∧ ks.Pairwise (· < ·) ∧ (∀ k ∈ ks, 0 ≤ k ∧ k < size) ∧ (∀ k ∈ allM hs, k ∈ ks) ∧ ks.length ≤ 1000 ∧ ∀ M', Kept M M' → q (.lst (ks.map fun k => strsT (keepF size r hs k))) M'
def sd_cells (C : Addr) : SpD := fun ds M q _ => ∃ (size : Int) (r : Rule) (hs : List Host), ds = [ringD C size r hs] ∧ 1 ≤ size ∧ CrewOk size hs ∧ RuleOk r ∧ (crewM hs).length < 64 ∧ ∀ M', Kept M M' → q (.tup (cellsL size r hs)) M'
/-- how many keys the host keeps, leads -/
noncomputable def keptN (size : Int) (r : Rule) (hs : List Host) (x : Str) : Int := (((partF size (allM hs)).filter fun t => decide (x ∈ keepF size r hs t.2.2)).map (·.2.1)).sum
noncomputable def leadN (size : Int) (r : Rule) (hs : List Host) (x : Str) : Int := (((partF size (allM hs)).filter fun t => decide ((keepF size r hs t.2.2).head? = some x)).map (·.2.1)).sum
def sd_kept (C : Addr) : SpD := fun ds M q _ => ∃ (size : Int) (r : Rule) (hs : List Host) (x : Str), ds = [ringD C size r hs, .str x] ∧ 1 ≤ size ∧ CrewOk size hs ∧ RuleOk r ∧ (crewM hs).length < 64 ∧ x ∈ hs.map (·.name) ∧ ∀ M', Kept M M' → q (.int (keptN size r hs x)) M'
def sd_leads (C : Addr) : SpD := fun ds M q _ => ∃ (size : Int) (r : Rule) (hs : List Host) (x : Str), ds = [ringD C size r hs, .str x] ∧ 1 ≤ size ∧ CrewOk size hs ∧ RuleOk r ∧ (crewM hs).length < 64 ∧ x ∈ hs.map (·.name) ∧ ∀ M', Kept M M' → q (.int (leadN size r hs x)) M'
def sd_shares (C : Addr) : SpD := fun ds M q _ => ∃ (size : Int) (r : Rule) (hs : List Host), ds = [ringD C size r hs] ∧ 1 ≤ size ∧ CrewOk size hs ∧ RuleOk r ∧ (crewM hs).length < 64 ∧ ∀ (ys : List Str) M', ys.Perm (hs.map (·.name)) → PyProof.Rows.sortedS ys = true → Kept M M' → q (.tup (ys.map fun x => .tup [.str x, .int (keptN size r hs x)])) M'
def sd_greatest (C : Addr) : SpD := fun ds M q _ => ∃ (size : Int) (r : Rule) (hs : List Host), ds = [ringD C size r hs] ∧ 1 ≤ size ∧ CrewOk size hs ∧ RuleOk r ∧ (crewM hs).length < 64 ∧ ∀ m M', (∃ x ∈ hs.map (·.name), m = keptN size r hs x) → (∀ x ∈ hs.map (·.name), keptN size r hs x ≤ m) → Kept M M' → q (.int m) M'
end R
set_option maxRecDepth 100000
namespace R
open PySem PySem.Spec PyProof.Rows L2 DL
abbrev N_all_marks : List Str := ["hosts", "_", "marks", "mark"]
def db_all_marks (C : Addr) : DS :=
    (dRet (dSortSet (dLc2 (dIter (dVar 0)) (gdTup 3 (gdCons (gdName 1) (gdCons (gdName 1) (gdCons (gdName 2) gdNil)))) dYes (dIter (dVar 2)) (gdName 3) dYes (dVar 3) [1, 1, 2, 3] [3])))
abbrev N_arcs_up_to : List Str := ["marks", "points", "befores", "before", "mark"]
def db_arcs_up_to (C : Addr) : DS :=
    (dSeq (dSet 2 (dOp rdAdd (dSl rdSl (dVar 0) (dPart (dUn rdNeg (dC (.int 1)))) dNo) (dSl rdSl (dVar 0) dNo (dPart (dUn rdNeg (dC (.int 1)))))))
    (dRet (dLc (dZip (dCons (dVar 2) (dCons (dVar 0) dNil))) (gdTup 2 (gdCons (gdName 3) (gdCons (gdName 4) gdNil))) dYes (dTup (dCons (dOp rdMod (dOp rdAdd (dVar 3) (dC (.int 1))) (dVar 1)) (dCons (dOp rdAdd (dOp rdMod (dOp rdSub (dOp rdSub (dVar 4) (dVar 3)) (dC (.int 1))) (dVar 1)) (dC (.int 1))) dNil))) [3, 4])))
abbrev N_check_ring : List Str := ["ring"]
def db_check_ring (C : Addr) : DS :=
    (dIfS (dNot (dTru (dIsiC C (dVar 0)))) dNever dNext)
abbrev N_ahead : List Str := ["name", "walk", "other"]
def db_ahead (C : Addr) : DS :=
    (dRet (dOp rdAdd (dTup (dCons (dVar 0) dNil)) (dCB rdTuple (dCons (dLc (dIter (dVar 1)) (gdName 2) (dTst (dOp rdNe (dVar 2) (dVar 0))) (dVar 2) [2]) dNil))))
abbrev N_walks : List Str := ["ring", "rows", "walk", "found", "mark", "name", "_", "marks"]
def db_walks (C : Addr) : DS :=
    (dSeq (dSet 1 (dSortPR (dLc2 (dIter (dProp C (sd_Ring_hosts C) (dVar 0))) (gdTup 3 (gdCons (gdName 5) (gdCons (gdName 6) (gdCons (gdName 7) gdNil)))) dYes (dIter (dVar 7)) (gdName 4) dYes (dTup (dCons (dVar 4) (dCons (dVar 5) dNil))) [5, 6, 7, 4] [4])))
    (dSeq (dSet 2 (dMeth C "walk" 2 (sd_Ring_walk C) (dVar 0) (dCons (dOp rdIx (dOp rdIx (dVar 1) (dC (.int 0))) (dC (.int 0))) dNil)))
    (dSeq (dSet 3 (dLstC dNil))
    (dSeq (dFor (dIter (dVar 1)) (gdTup 2 (gdCons (gdName 4) (gdCons (gdName 5) gdNil))) (dSeq (dSet 2 (dCall 2 (sd_ahead C) (dCons (dVar 5) (dCons (dVar 2) dNil))))
    (dExp (dApp (dVar 3) (dCons (dTup (dCons (dVar 4) (dCons (dVar 2) dNil))) dNil)))))
    (dRet (dRevL (dVar 3)))))))
abbrev N_keepers_at : List Str := ["ring", "marks", "rows", "own", "keepers", "found", "mark", "walk"]
def db_keepers_at (C : Addr) : DS :=
    (dSeq (dSet 2 (dLc (dIter (dCall 1 (sd_walks C) (dCons (dVar 0) dNil))) (gdTup 2 (gdCons (gdName 6) (gdCons (gdName 7) gdNil))) dYes (dTup (dCons (dVar 6) (dCons (dCall 2 (sd_keepers_in C) (dCons (dVar 0) (dCons (dVar 7) dNil))) dNil))) [6, 7]))
    (dSeq (dSet 3 (dCB rdDictC (dCons (dVar 2) dNil)))
    (dSeq (dSet 4 (dOp rdIx (dOp rdIx (dVar 2) (dC (.int 0))) (dC (.int 1))))
    (dSeq (dSet 5 (dLstC dNil))
    (dSeq (dFor (dIterRev (dCB rdList (dCons (dVar 1) dNil))) (gdName 6) (dSeq (dSet 4 (dDGet2 (dVar 3) (dVar 6) (dVar 4)))
    (dExp (dApp (dVar 5) (dCons (dVar 4) dNil)))))
    (dRet (dRevL (dVar 5))))))))
abbrev N_cells : List Str := ["ring", "marks", "arcs", "first", "many", "keepers"]
def db_cells (C : Addr) : DS :=
    (dSeq (dExp (dCall 1 (sd_check_ring C) (dCons (dVar 0) dNil)))
    (dSeq (dSet 1 (dCall 1 (sd_all_marks C) (dCons (dProp C (sd_Ring_hosts C) (dVar 0)) dNil)))
    (dSeq (dSet 2 (dCall 2 (sd_arcs_up_to C) (dCons (dVar 1) (dCons (dProp C (sd_Ring_points C) (dVar 0)) dNil))))
    (dRet (dCB rdTuple (dCons (dLc (dZip (dCons (dVar 2) (dCons (dCall 2 (sd_keepers_at C) (dCons (dVar 0) (dCons (dVar 1) dNil))) dNil))) (gdTup 2 (gdCons (gdTup 2 (gdCons (gdName 3) (gdCons (gdName 4) gdNil))) (gdCons (gdName 5) gdNil))) dYes (dTup (dCons (dVar 3) (dCons (dVar 4) (dCons (dVar 5) dNil)))) [5, 3, 4]) dNil))))))
abbrev N_shares : List Str := ["ring", "rows", "name", "_", "many", "keepers"]
def db_shares (C : Addr) : DS :=
    (dSeq (dSet 1 (dCall 1 (sd_cells C) (dCons (dVar 0) dNil)))
    (dRet (dCB rdTuple (dCons (dLc (dIter (dProp C (sd_Ring_names C) (dVar 0))) (gdName 2) dYes (dTup (dCons (dVar 2) (dCons (dCB rdSum (dCons (dLc (dIter (dVar 1)) (gdTup 3 (gdCons (gdName 3) (gdCons (gdName 4) (gdCons (gdName 5) gdNil)))) (dTst (dOp (rdIn false) (dVar 2) (dVar 5))) (dVar 4) [3, 4, 5]) dNil)) dNil))) [2]) dNil))))
abbrev N_kept : List Str := ["ring", "name", "_", "many", "keepers"]
def db_kept (C : Addr) : DS :=
    (dSeq (dExp (dCall 1 (sd_check_ring C) (dCons (dVar 0) dNil)))
    (dSeq (dExp (dCall 2 (sd_check_name C) (dCons (dVar 0) (dCons (dVar 1) dNil))))
    (dRet (dCB rdSum (dCons (dLc (dIter (dCall 1 (sd_cells C) (dCons (dVar 0) dNil))) (gdTup 3 (gdCons (gdName 2) (gdCons (gdName 3) (gdCons (gdName 4) gdNil)))) (dTst (dOp (rdIn false) (dVar 1) (dVar 4))) (dVar 3) [2, 3, 4]) dNil)))))
abbrev N_leads : List Str := ["ring", "name", "_", "many", "keepers"]
def db_leads (C : Addr) : DS :=
    (dSeq (dExp (dCall 1 (sd_check_ring C) (dCons (dVar 0) dNil)))
    (dSeq (dExp (dCall 2 (sd_check_name C) (dCons (dVar 0) (dCons (dVar 1) dNil))))
    (dRet (dCB rdSum (dCons (dLc (dIter (dCall 1 (sd_cells C) (dCons (dVar 0) dNil))) (gdTup 3 (gdCons (gdName 2) (gdCons (gdName 3) (gdCons (gdName 4) gdNil)))) (dTst (dOp rdEq (dVar 1) (dOp rdIx (dVar 4) (dC (.int 0))))) (dVar 3) [2, 3, 4]) dNil)))))
abbrev N_greatest : List Str := ["ring", "_", "many"]
def db_greatest (C : Addr) : DS :=
    (dRet (dCB rdMaxL (dCons (dLc (dIter (dCall 1 (sd_shares C) (dCons (dVar 0) dNil))) (gdTup 2 (gdCons (gdName 1) (gdCons (gdName 2) gdNil))) dYes (dVar 2) [1, 2]) dNil)))
end R
set_option maxRecDepth 100000
set_option maxHeartbeats 1000000
namespace R
open PySem PySem.Spec PyProof.Rows L2 DL
local macro_rules | `(tactic| bv_omega) => `(tactic| first | assumption | exact mset_same)
local macro_rules | `(tactic| symm) => `(tactic| first
  | ((with_reducible show ∃ _, _ = _ ∧ _); refine ⟨_, rfl, ?_⟩)
  | ((with_reducible show _ = _ ∧ _); refine ⟨rfl, ?_⟩)
  | ((with_reducible show ∃ _ _, _ = _ ∧ _ = _ ∧ _); refine ⟨_, _, rfl, rfl, ?_⟩)
  | ((with_reducible show ∃ _ _, _ = _ ∧ _); refine ⟨_, _, rfl, ?_⟩)
  | ((with_reducible show ∃ _ _ _, _ = _ ∧ _); refine ⟨_, _, _, rfl, ?_⟩)
  | ((with_reducible show (_ ≤ _ ∧ _) ∧ _); refine ⟨by omega, ?_⟩)
  | with_reducible refine add_int ?_ | with_reducible refine sub_int ?_
  | with_reducible refine lt_int ?_ | with_reducible refine le_int ?_ | with_reducible refine gt_int ?_ | with_reducible refine ge_int ?_
  | with_reducible refine int_int ?_
  | with_reducible refine eq_int ?_ | with_reducible refine ne_int ?_
  | with_reducible refine len_tup ?_ | with_reducible refine len_lst ?_
  | ((with_reducible show rdIx (.cel _) (.int _) _ _); refine ix_cel (by bv_omega) (by rfl) ?_)
  | ((with_reducible show rdIx (.lst _) (.int _) _ _); refine ix_lst (by rfl) ?_)
  | ((with_reducible show rdIx (.tup _) (.int _) _ _); refine ix_tup (by rfl) ?_)
  | ((with_reducible show rdLen [.cel _] _ _); refine len_cel (by bv_omega) ?_)
  | ((with_reducible show rdMul (.int _) (.int _) _ _); first | refine mul_l (by decide) (by decide) ?_ | refine mul_r (by decide) (by decide) ?_ | refine mul_l (by omega) (by omega) ?_ | refine mul_r (by omega) (by omega) ?_)
  | ((with_reducible show rdDiv (.int _) (.int _) _ _); refine div_int (by first | decide | assumption | omega) (by first | decide | assumption | omega) ?_)
  | ((with_reducible show rdDivmod [.int _, .int _] _ _); refine dm_int (by first | decide | assumption | omega) (by first | decide | assumption | omega) ?_)
  | ((with_reducible show @ite _ (_ = true) _ _ _); first | refine ifYes (by first | with_reducible rfl | exact Bool.not_false | assumption) ?_ | refine ifNo (by first | with_reducible rfl | exact Bool.not_true | assumption) ?_)
  | ((with_reducible show ∃ _, _ ∧ _); refine ⟨_, celL_of (by bv_omega), ?_⟩)
  | ((with_reducible show ∃ _ _ _ _, _ ∧ _ ∧ _ ∧ _ ∧ _); refine ⟨_, _, _, _, rfl, rfl, by bv_omega, by rfl, ?_⟩)
  | ((with_reducible show (_ : Nat) ≤ sizeLine ∧ _); refine ⟨by rw [sizeLine_eq]; exact Nat.le_of_ble_eq_true rfl, ?_⟩))
local macro_rules | `(tactic| infer_instance) => `(tactic| ((repeat symm); try dsimp only))
local macro_rules | `(tactic| ac_rfl) => `(tactic| ((repeat (first | symm | ((with_reducible show rdMod (.int _) (.int _) _ _); refine mod_any (by first | decide | assumption | omega) ?_; intro _ _ _))); try dsimp only))
theorem kp_check_ring (C : Addr) : Keeps N_check_ring 1 (sd_check_ring C) (db_check_ring C) := by
  rintro ds M q ex hl ⟨size, r, hs, rfl, h⟩
  show db_check_ring C _ [some (ringD C size r hs)] M
  unfold db_check_ring
  infer_instance
  refine .inl ⟨⟨_, fs_ring⟩, ?_⟩
  infer_instance
  exact h
theorem marks_map (hs : List Host) : (hs.flatMap fun o => o.marks.map D.int) = (crewM hs).map D.int := by unfold crewM; rw [List.map_flatMap]
theorem kp_all_marks (C : Addr) : Keeps N_all_marks 1 (sd_all_marks C) (db_all_marks C) := by
  rintro ds M q ex hl ⟨hs, rfl, h64, h⟩
  show db_all_marks C _ [some (crewD hs), none, none, none] M
  unfold db_all_marks
  infer_instance
  intro c hc
  refine lc2_map hostD (fun o => o.marks.map D.int) hc (by rw [marks_map, List.length_map, sizeLine_eq]; omega) (fun _ => rfl) (fun o ho acc hz nx hnx => ?_) ?_
  · infer_instance
    rw [List.length_map] at hz
    refine in_map D.int D.int hz (fun _ => rfl) (fun m hm acc2 hz2 nx2 hnx2 => ?_) hnx
    infer_instance
    exact acc_put hz2 hnx2
  · rw [marks_map]
    refine ⟨_, crewM hs, rfl, ints_map _, h64, fun ms h1 h2 => ?_⟩
    rw [asc_all h1 h2]; exact h
theorem zip_drop {α : Type} : ∀ (b : α) (ms : List α), (b :: ms.dropLast).zip ms = (b :: ms).zip ms
  | _, [] => rfl
  | b, [m] => rfl
  | b, m :: n :: r => by
    show (b, m) :: ((n :: r).dropLast.cons m).zip (n :: r) = (b, m) :: (m :: n :: r).zip (n :: r)
    rw [zip_drop m (n :: r)]
theorem cut_last {α : Type} (xs : List α) (h : xs ≠ []) : DL.cutD xs (some (-1)) none = xs.drop (xs.length - 1) ∧ DL.cutD xs none (some (-1)) = xs.dropLast := by
  have hl : 1 ≤ xs.length := by cases xs with | nil => exact absurd rfl h | cons a r => simp
  have h1 : ∀ d, HT.sIx xs.length d (some (-1)) = xs.length - 1 := fun d => by
    have := HT.clip_eq (-1) xs.length d
    rw [if_pos (by decide)] at this
    omega
  unfold DL.cutD
  rw [h1, h1, HT.sIx_none, HT.sIx_none]
  refine ⟨?_, ?_⟩
  · rw [List.take_of_length_le (by rw [List.length_drop]; omega)]
  · rw [List.drop_zero, Nat.sub_zero, List.dropLast_eq_take]
theorem drop_last {α : Type} {xs : List α} (d : α) (h : xs ≠ []) : xs.drop (xs.length - 1) = [xs.getLastD d] := by
  have hl : 1 ≤ xs.length := by cases xs with | nil => exact absurd rfl h | cons a r => simp
  rw [List.drop_eq_getElem_cons (show xs.length - 1 < xs.length by omega), List.drop_of_length_le (by omega), List.getLastD_eq_getLast?, List.getLast?_eq_getElem?, List.getElem?_eq_getElem (by omega)]
  rfl
theorem neg_int {i : Int} {M : Mem} {q : QD} (w : q (.int (-i)) M) : rdNeg (.int i) M q := w
theorem kp_arcs_up_to (C : Addr) : Keeps N_arcs_up_to 2 (sd_arcs_up_to C) (db_arcs_up_to C) := by
  rintro ds M q ex hl ⟨ms, size, rfl, s0, hne, hlen, h⟩
  show db_arcs_up_to C _ [some (.lst (ms.map D.int)), some (.int size), none, none, none] M
  unfold db_arcs_up_to
  have hne2 : ms.map D.int ≠ [] := by simpa using hne
  obtain ⟨c1, c2⟩ := cut_last (ms.map D.int) hne2
  infer_instance
  refine neg_int ?_
  infer_instance
  refine ⟨_, rfl, ?_⟩
  rw [c1, List.length_map, ← List.map_drop, drop_last 0 hne]
  infer_instance
  refine neg_int ?_
  infer_instance
  refine ⟨_, rfl, ?_⟩
  rw [c2, ← List.map_dropLast]
  refine add_lst rfl rfl (by rw [List.length_map, List.length_map, List.length_dropLast, sizeLine_eq]; simp; omega) ?_
  rw [← List.map_append, List.singleton_append]
  infer_instance
  refine ⟨_, _, ((ms.getLastD 0 :: ms.dropLast).map D.int), ms.map D.int, rfl, .inr ⟨rfl, rfl, ?_⟩⟩
  intro c hc
  rw [zipD_map, zip_drop]
  refine lc_all (fun p : Int × Int => .tup [.int p.1, .int p.2]) (fun p => .tup [.int ((p.1 + 1) % size), .int ((p.2 - p.1 - 1) % size + 1)]) hc (by rw [List.length_zip, List.length_cons, sizeLine_eq]; omega) (fun _ => ⟨rfl, rfl⟩) (fun p hp acc hz nx hnx => ?_) ?_
  · infer_instance
    refine mod_int s0 ?_
    infer_instance
    refine mod_int s0 ?_
    infer_instance
    exact acc_put hz hnx
  · have e : (((ms.getLastD 0 :: ms).zip ms).map fun p : Int × Int => (.tup [.int ((p.1 + 1) % size), .int ((p.2 - p.1 - 1) % size + 1)] : D)) = (partF size ms).map fun t => .tup [.int t.1, .int t.2.1] := by
      unfold partF
      rw [← partL_zip, List.map_map]
      rfl
    rw [e]
    exact h
theorem kp_ahead (C : Addr) : Keeps N_ahead 2 (sd_ahead C) (db_ahead C) := by
  rintro ds M q ex hl ⟨x, ns, rfl, h12, h⟩
  show db_ahead C _ [some (.str x), some (strsT ns), none] M
  unfold db_ahead
  infer_instance
  intro c hc
  refine lc_map D.str (fun y => !decide (y = x)) D.str hc (by rw [sizeLine_eq]; omega) (fun _ => rfl) (fun y hy acc hz nx h1 h2 => ?_) ?_
  · infer_instance
    refine ne_strA ?_
    infer_instance
    refine ifB (fun e => ?_) (fun e => ?_)
    · infer_instance
      exact acc_put hz (h1 e)
    · exact h2 e
  · infer_instance
    refine ⟨_, _, rfl, rfl, ?_⟩
    refine add_tup (by rw [List.length_map, sizeLine_eq]; have := List.length_filter_le (fun y => !decide (y = x)) ns; simp; omega) ?_
    exact h
def ownPairs (hs : List Host) : List (Int × Str) := hs.flatMap fun o => o.marks.map fun m => (m, o.name)
theorem own_map (hs : List Host) : (hs.flatMap fun o => o.marks.map fun m => (.tup [.int m, .str o.name] : D)) = (ownPairs hs).map DL.pairD := by
  unfold ownPairs; rw [List.map_flatMap]
  simp only [List.map_map]
  rfl
theorem own_fst (hs : List Host) : (ownPairs hs).map (·.1) = crewM hs := by
  unfold ownPairs crewM; rw [List.map_flatMap]
  simp only [List.map_map]
  congr 1; funext o
  exact List.map_id _
theorem own_mem {hs : List Host} {p : Int × Str} : p ∈ ownPairs hs ↔ ∃ o ∈ hs, p.1 ∈ o.marks ∧ p.2 = o.name := by
  unfold ownPairs
  rw [List.mem_flatMap]
  constructor
  · rintro ⟨o, ho, h⟩
    obtain ⟨m, hm, rfl⟩ := List.mem_map.mp h
    exact ⟨o, ho, hm, rfl⟩
  · rintro ⟨o, ho, hm, e⟩
    exact ⟨o, ho, List.mem_map.mpr ⟨p.1, hm, Prod.ext rfl e.symm⟩⟩
theorem own_nd {size : Int} {hs : List Host} (hc : CrewOk size hs) : (crewM hs).Nodup := by
  have hp := crew_pw hc
  have hm := crew_marks hc
  unfold crewM
  clear hc
  induction hs with
  | nil => simp
  | cons o hs ih =>
    rw [List.flatMap_cons, List.nodup_append]
    rw [List.pairwise_cons] at hp
    refine ⟨(hm o (by simp)).asc.imp fun h => Int.ne_of_lt h, ih hp.2 fun x hx => hm x (List.mem_cons_of_mem _ hx), fun a ha b hb e => ?_⟩
    subst e
    obtain ⟨o', ho', hb'⟩ := List.mem_flatMap.mp hb
    exact (hp.1 o' ho').2 a hb' ha
theorem own_len {size : Int} {hs : List Host} (hc : CrewOk size hs) : (crewM hs).length ≤ 200 := by
  have h12 := hc.few
  have hm := crew_marks hc
  unfold crewM
  rw [List.length_flatMap]
  have := sum_le (l := hs) (f := fun o : Host => o.marks.length) (b := 16) fun o ho => (hm o ho).few
  omega
theorem own_ne {size : Int} {hs : List Host} (hc : CrewOk size hs) : crewM hs ≠ [] := by
  obtain ⟨o, ho⟩ := List.exists_mem_of_ne_nil _ hc.ne
  obtain ⟨m, hm⟩ : ∃ m, m ∈ o.marks := List.exists_mem_of_ne_nil _ fun z => by have := (crew_marks hc o ho).ne; rw [z] at this; simp at this
  exact List.ne_nil_of_mem (List.mem_flatMap.mpr ⟨o, ho, hm⟩)
theorem allM_ne {size : Int} {hs : List Host} (hc : CrewOk size hs) : allM hs ≠ [] := by
  obtain ⟨m, hm⟩ := List.exists_mem_of_ne_nil _ (own_ne hc)
  exact List.ne_nil_of_mem (ascF_mem.mpr hm)
theorem allM_in {size : Int} {hs : List Host} (hc : CrewOk size hs) {k : Int} (hk : k ∈ allM hs) : 0 ≤ k ∧ k < size := by
  obtain ⟨o, ho, hm⟩ := allM_mem.mp hk
  exact (crew_marks hc o ho).inn k hm
theorem allM_len {size : Int} {hs : List Host} (hc : CrewOk size hs) : (allM hs).length ≤ 200 := Nat.le_trans ascF_len (own_len hc)
/-- where the own marks lie, seen from p: none for d points -/
theorem free_way {size p d : Int} {hs : List Host} (s1 : 1 ≤ size) (hc : CrewOk size hs) (p0 : 0 ≤ p) (hpd : p < size) (hd : p + d < size) (h : ∀ k ∈ allM hs, k < p ∨ p + d ≤ k) : ∀ o ∈ hs, ∀ k ∈ o.marks, d ≤ (k - p) % size := fun o ho k hk => by
  have hk2 := (crew_marks hc o ho).inn k hk
  rcases h k (allM_mem.mpr ⟨o, ho, hk⟩) with z | z
  · have e : (k - p) % size = k - p + size := by
      have e2 : k - p = (k - p + size) + size * (-1) := by omega
      conv => lhs; rw [e2, Int.add_mul_emod_self_left]
      exact Int.emod_eq_of_lt (by omega) (by omega)
    omega
  · by_cases hz : p ≤ k
    · rw [Int.emod_eq_of_lt (by omega) (by omega)]; omega
    · have := Int.emod_nonneg (k - p) (show size ≠ 0 by omega); omega
theorem walk_same {size p d : Int} {hs : List Host} (s1 : 1 ≤ size) (hc : CrewOk size hs) (p0 : 0 ≤ p) (hpd : p < size) (d0 : 0 ≤ d) (hd : p + d < size) (h : ∀ k ∈ allM hs, k < p ∨ p + d ≤ k) : walkF size hs p = walkF size hs (p + d) :=
  (walk_shift (by omega) d0 hc (free_way s1 hc p0 hpd hd h)).symm
/-- no mark from here to the end: as at the first mark -/
theorem walk_wrap {size p l : Int} {hs : List Host} (s1 : 1 ≤ size) (hc : CrewOk size hs) (p0 : 0 ≤ p) (hpd : p ≤ size) (hl : l ∈ allM hs) (hmin : ∀ k ∈ allM hs, l ≤ k ∧ k < p) : walkF size hs p = walkF size hs l := by
  have hl2 := allM_in hc hl
  have hd : ∀ o ∈ hs, ∀ k ∈ o.marks, l + size - p ≤ (k - p) % size := fun o ho k hk => by
    have hk2 := (crew_marks hc o ho).inn k hk
    have := hmin k (allM_mem.mpr ⟨o, ho, hk⟩)
    have e : (k - p) % size = k - p + size := by
      have e2 : k - p = (k - p + size) + size * (-1) := by omega
      conv => lhs; rw [e2, Int.add_mul_emod_self_left]
      exact Int.emod_eq_of_lt (by omega) (by omega)
    omega
  have := walk_shift (p := p) (d := l + size - p) (by omega) (by omega) hc hd
  rw [show p + (l + size - p) = l + size by omega, walk_mod hc] at this
  exact this.symm
theorem filt_idem {x : Str} {l : List Str} : (x :: (l.filter fun y => !decide (y = x))).filter (fun y => !decide (y = x)) = l.filter fun y => !decide (y = x) := by
  rw [List.filter_cons, if_neg (by simp), List.filter_filter]
  congr 1
  funext y
  rw [Bool.and_self]
theorem head_walk {size k : Int} (s1 : 1 ≤ size) {hs : List Host} (hc : CrewOk size hs) {h : Host} (hh : h ∈ hs) (hk : k ∈ h.marks) : h.name :: ((walkF size hs k).filter fun x => !decide (x = h.name)) = walkF size hs k := by
  rw [walk_front s1 hc hh hk, filt_idem]
theorem walkF_len {size p : Int} {hs : List Host} (hc : CrewOk size hs) : (walkF size hs p).length = hs.length := walk_len (walkF_ok hc p)
theorem walkF_in {size p : Int} {hs : List Host} (hc : CrewOk size hs) : ∀ x ∈ walkF size hs p, x ∈ hs.map (·.name) := walk_in (walkF_ok hc p)
theorem lk_walkN {size : Int} {r : Rule} {hs : List Host} : (fieldsD size r hs).lookup ("walk" : Str) = none := by rfl
theorem desc_rev {ps : List (Int × Str)} {size : Int} {hs : List Host} (hc : CrewOk size hs) (hp : ps.Perm (ownPairs hs)) (hd : ps.Pairwise (fun a b => b.1 ≤ a.1)) : (ps.map (·.1)).reverse = allM hs ∧ ps.Pairwise (fun a b => b.1 < a.1) := by
  have hm : (ps.map (·.1)).Perm (crewM hs) := by rw [← own_fst]; exact hp.map _
  have hn : (ps.map (·.1)).Nodup := hm.nodup_iff.mpr (own_nd hc)
  have hst : ps.Pairwise (fun a b => b.1 < a.1) := by
    unfold List.Nodup at hn
    rw [List.pairwise_map] at hn
    exact (hn.and hd).imp fun ⟨h1, h2⟩ => by omega
  refine ⟨asc_all ?_ fun k => ?_, hst⟩
  · rw [List.pairwise_reverse, List.pairwise_map]; exact hst
  · rw [List.mem_reverse]; exact hm.mem_iff
theorem kp_walks (C : Addr) : Keeps N_walks 1 (sd_walks C) (db_walks C) := by
  rintro ds M q ex hl ⟨size, r, hs, rfl, s1, hc, h⟩
  show db_walks C _ [some (ringD C size r hs), none, none, none, none, none, none, none] M
  unfold db_walks
  have hf := hc.few
  infer_instance
  refine ⟨_, fs_ring, size, r, hs, rfl, ?_⟩
  infer_instance
  intro c hcn
  have hol := own_len hc
  have hpl : (ownPairs hs).length = (crewM hs).length := by rw [← own_fst, List.length_map]
  refine lc2_map hostD (fun o => o.marks.map fun m => (.tup [.int m, .str o.name] : D)) hcn (by rw [own_map, List.length_map, hpl, sizeLine_eq]; omega) (fun _ => rfl) (fun o ho acc hz nx hnx => ?_) ?_
  · infer_instance
    rw [List.length_map] at hz
    refine in_map D.int (fun m => .tup [.int m, .str o.name]) hz (fun _ => rfl) (fun m hm acc2 hz2 nx2 hnx2 => ?_) hnx
    infer_instance
    exact acc_put hz2 hnx2
  · rw [own_map]
    refine ⟨_, ownPairs hs, rfl, pairsD_map _, fun a ha b hb e => ?_, fun ps hp hd => ?_⟩
    · obtain ⟨o, ho, hm, e1⟩ := own_mem.mp ha
      obtain ⟨o', ho', hm', e1'⟩ := own_mem.mp hb
      rw [← e] at hm'
      rw [e1, e1', crew_apart hc ho ho' hm hm']
    · obtain ⟨hrev, hst⟩ := desc_rev hc hp hd
      have hlen : ps.length ≤ 200 := by rw [hp.length_eq, hpl]; exact hol
      cases ps with
      | nil =>
        have : ownPairs hs = [] := List.nil_perm.mp hp
        rw [this] at hpl
        exact absurd (List.eq_nil_of_length_eq_zero hpl.symm) (own_ne hc)
      | cons p0 ps0 =>
        have hmemp : ∀ p ∈ p0 :: ps0, ∃ o ∈ hs, p.1 ∈ o.marks ∧ p.2 = o.name := fun p hpm => own_mem.mp (hp.mem_iff.mp hpm)
        have hall : ∀ k, k ∈ allM hs ↔ k ∈ (p0 :: ps0).map (·.1) := fun k => by rw [← hrev, List.mem_reverse]
        infer_instance
        refine ⟨_, fs_ring, lk_walkN, ?_⟩
        rw [List.map_cons]
        infer_instance
        refine ix_lst atI_zero ?_
        refine ix_tup (xs := [.int p0.1, .str p0.2]) atI_zero ?_
        infer_instance
        obtain ⟨o0, ho0, hm0, en0⟩ := hmemp p0 (by simp)
        have hin0 := (crew_marks hc o0 ho0).inn p0.1 hm0
        refine ⟨size, r, hs, p0.1, rfl, hc, hin0.1, hin0.2, fun ns hw => ?_⟩
        have ew := walk_eq hc hw
        subst ew
        infer_instance
        intro c3 hc3
        infer_instance
        refine for_map DL.pairD (xs := p0 :: ps0) (fun i env M' => ∃ (w4 w5 w6 w7 : Option D) (w : List Str), M' = mset M c3 (.ls (((p0 :: ps0).take i).map fun p => .tup [.int p.1, strsT (walkF size hs p.1)])) ∧ env = [some (ringD C size r hs), some (.lst ((p0 :: ps0).map DL.pairD)), some (strsT w), some (.cel c3), w4, w5, w6, w7] ∧ w.length = hs.length ∧ ∀ p, (p0 :: ps0)[i]? = some p → p.2 :: (w.filter fun x => !decide (x = p.2)) = walkF size hs p.1) ?_ ?_ _ _ ⟨none, none, none, none, walkF size hs p0.1, rfl, rfl, walkF_len hc, fun p hp0 => ?_⟩
        · rintro env M' ⟨w4, w5, w6, w7, w, rfl, rfl, hwl, hw2⟩
          rw [List.take_length]
          refine ⟨rfl, ?_⟩
          infer_instance
          rw [← List.map_reverse]
          have e : (p0 :: ps0).reverse.map (fun p => (.tup [.int p.1, strsT (walkF size hs p.1)] : D)) = (allM hs).map fun m => .tup [.int m, strsT (walkF size hs m)] := by
            rw [← hrev, ← List.map_reverse, List.map_map]
            rfl
          rw [e]
          exact h _ (Kept.new hc3)
        · rintro i p env M' hx ⟨w4, w5, w6, w7, w, rfl, rfl, hwl, hw2⟩ nx hnx
          refine ⟨rfl, ?_⟩
          have hw3 := hw2 p hx
          have hi := (List.getElem?_eq_some_iff.mp hx).1
          unfold DL.pairD
          infer_instance
          refine ⟨_, _, rfl, by omega, ?_⟩
          rw [hw3]
          infer_instance
          refine ⟨_, _, rfl, mset_same, ?_⟩
          infer_instance
          refine ⟨_, _, rfl, mset_same, by rw [List.length_map, List.length_take, sizeLine_eq]; omega, hnx _ _ ⟨_, _, _, _, walkF size hs p.1, ?_, rfl, walkF_len hc, fun p' hp' => ?_⟩⟩
          · rw [mset_mset, List.take_add_one, hx, List.map_append]; rfl
          · obtain ⟨o, ho, hm, en⟩ := hmemp p (List.mem_of_getElem? hx)
            obtain ⟨o', ho', hm', en'⟩ := hmemp p' (List.mem_of_getElem? hp')
            have hin := (crew_marks hc o ho).inn _ hm
            have hin' := (crew_marks hc o' ho').inn _ hm'
            have hlt : p'.1 < p.1 := by
              have h1 := List.getElem?_eq_some_iff.mp hx
              have h2 := List.getElem?_eq_some_iff.mp hp'
              obtain ⟨a1, a2⟩ := h1
              obtain ⟨b1, b2⟩ := h2
              have := List.pairwise_iff_getElem.mp hst i (i + 1) a1 b1 (by omega)
              rw [a2, b2] at this
              exact this
            have hno : ∀ k ∈ allM hs, k < p'.1 + 1 ∨ p'.1 + 1 + (p.1 - (p'.1 + 1)) ≤ k := fun k hk => by
              obtain ⟨a, ha, rfl⟩ := List.mem_map.mp ((hall k).mp hk)
              obtain ⟨j, hj⟩ := List.getElem?_of_mem ha
              obtain ⟨a1, a2⟩ := List.getElem?_eq_some_iff.mp hx
              obtain ⟨b1, b2⟩ := List.getElem?_eq_some_iff.mp hp'
              obtain ⟨c1, c2⟩ := List.getElem?_eq_some_iff.mp hj
              by_cases hji : j ≤ i
              · right
                by_cases he : j = i
                · subst he; rw [a2] at c2; rw [← c2]; omega
                · have := List.pairwise_iff_getElem.mp hst j i c1 a1 (by omega)
                  rw [c2, a2] at this; omega
              · left
                by_cases he : j = i + 1
                · subst he; rw [b2] at c2; rw [← c2]; omega
                · have := List.pairwise_iff_getElem.mp hst (i + 1) j b1 c1 (by omega)
                  rw [c2, b2] at this; omega
            have hsame := walk_same (p := p'.1 + 1) (d := p.1 - (p'.1 + 1)) s1 hc (by omega) (by omega) (by omega) (by omega) hno
            rw [show p'.1 + 1 + (p.1 - (p'.1 + 1)) = p.1 by omega] at hsame
            rw [en', walk_front s1 hc ho' hm', hsame]
        · have : p = p0 := by simpa using hp0.symm
          subst this
          rw [en0]
          exact head_walk s1 hc ho0 hm0
end R
set_option maxRecDepth 100000
set_option maxHeartbeats 1000000
namespace R
open PySem PySem.Spec PyProof.Rows L2 DL
local macro_rules | `(tactic| bv_omega) => `(tactic| first | assumption | exact mset_same)
local macro_rules | `(tactic| symm) => `(tactic| first
  | ((with_reducible show ∃ _, _ = _ ∧ _); refine ⟨_, rfl, ?_⟩)
  | ((with_reducible show _ = _ ∧ _); refine ⟨rfl, ?_⟩)
  | ((with_reducible show ∃ _ _, _ = _ ∧ _ = _ ∧ _); refine ⟨_, _, rfl, rfl, ?_⟩)
  | ((with_reducible show ∃ _ _, _ = _ ∧ _); refine ⟨_, _, rfl, ?_⟩)
  | ((with_reducible show ∃ _ _ _, _ = _ ∧ _); refine ⟨_, _, _, rfl, ?_⟩)
  | ((with_reducible show (_ ≤ _ ∧ _) ∧ _); refine ⟨by omega, ?_⟩)
  | with_reducible refine add_int ?_ | with_reducible refine sub_int ?_
  | with_reducible refine lt_int ?_ | with_reducible refine le_int ?_ | with_reducible refine gt_int ?_ | with_reducible refine ge_int ?_
  | with_reducible refine int_int ?_
  | with_reducible refine eq_int ?_ | with_reducible refine ne_int ?_
  | with_reducible refine len_tup ?_ | with_reducible refine len_lst ?_
  | ((with_reducible show rdIx (.cel _) (.int _) _ _); refine ix_cel (by bv_omega) (by rfl) ?_)
  | ((with_reducible show rdIx (.lst _) (.int _) _ _); refine ix_lst (by rfl) ?_)
  | ((with_reducible show rdIx (.tup _) (.int _) _ _); refine ix_tup (by rfl) ?_)
  | ((with_reducible show rdLen [.cel _] _ _); refine len_cel (by bv_omega) ?_)
  | ((with_reducible show rdMul (.int _) (.int _) _ _); first | refine mul_l (by decide) (by decide) ?_ | refine mul_r (by decide) (by decide) ?_ | refine mul_l (by omega) (by omega) ?_ | refine mul_r (by omega) (by omega) ?_)
  | ((with_reducible show rdDiv (.int _) (.int _) _ _); refine div_int (by first | decide | assumption | omega) (by first | decide | assumption | omega) ?_)
  | ((with_reducible show rdDivmod [.int _, .int _] _ _); refine dm_int (by first | decide | assumption | omega) (by first | decide | assumption | omega) ?_)
  | ((with_reducible show @ite _ (_ = true) _ _ _); first | refine ifYes (by first | with_reducible rfl | exact Bool.not_false | assumption) ?_ | refine ifNo (by first | with_reducible rfl | exact Bool.not_true | assumption) ?_)
  | ((with_reducible show ∃ _, _ ∧ _); refine ⟨_, celL_of (by bv_omega), ?_⟩)
  | ((with_reducible show ∃ _ _ _ _, _ ∧ _ ∧ _ ∧ _ ∧ _); refine ⟨_, _, _, _, rfl, rfl, by bv_omega, by rfl, ?_⟩)
  | ((with_reducible show (_ : Nat) ≤ sizeLine ∧ _); refine ⟨by rw [sizeLine_eq]; exact Nat.le_of_ble_eq_true rfl, ?_⟩))
local macro_rules | `(tactic| infer_instance) => `(tactic| ((repeat symm); try dsimp only))
local macro_rules | `(tactic| ac_rfl) => `(tactic| ((repeat (first | symm | ((with_reducible show rdMod (.int _) (.int _) _ _); refine mod_any (by first | decide | assumption | omega) ?_; intro _ _ _))); try dsimp only))
theorem keepF_L {size p : Int} {r : Rule} {hs : List Host} (hc : CrewOk size hs) (hr : RuleOk r) : keepF size r hs p = keepL r hs (walkF size hs p) := (keep_same hr (walk_nd hc (walkF_ok hc p))).symm
theorem keepF_in {size p : Int} {r : Rule} {hs : List Host} (hc : CrewOk size hs) (hr : RuleOk r) : ∀ x ∈ keepF size r hs p, x ∈ hs.map (·.name) := fun x hx => by
  rw [keepF_L hc hr] at hx
  exact walkF_in hc x ((keep_in hr).2 x hx)
theorem kvs_marks (f : Int → D) : ∀ ms : List Int, kvsD (ms.map fun m => (.tup [.int m, f m] : D)) = some (ms.map fun m => ((Sum.inl m : Key), f m))
  | [] => rfl
  | m :: r => by
    show (match keyD (.int m), kvsD (r.map fun m => (.tup [.int m, f m] : D)) with | some k, some r => some ((k, f m) :: r) | _, _ => none) = _
    rw [kvs_marks f r]; rfl
theorem own_at {f : Int → D} {ms : List Int} (hn : ms.Nodup) {k : Int} : getK (mergeD [] (ms.map fun m => ((Sum.inl m : Key), f m))) (.inl k) = if k ∈ ms then some (f k) else none := by
  have hn2 : ((ms.map fun m => ((Sum.inl m : Key), f m)).map (·.1)).Nodup := by
    rw [List.map_map]
    unfold List.Nodup at hn ⊢
    rw [List.pairwise_map]
    exact hn.imp fun h e => h (Sum.inl.inj e)
  by_cases h : k ∈ ms
  · rw [if_pos h]
    exact merge_at hn2 (List.mem_map.mpr ⟨k, h, rfl⟩)
  · rw [if_neg h, merge_no]
    · rfl
    · intro z
      obtain ⟨p, hp, e⟩ := List.mem_map.mp z
      obtain ⟨m, hm, rfl⟩ := List.mem_map.mp hp
      exact h (by rw [← Sum.inl.inj e]; exact hm)
theorem kp_keepers_at (C : Addr) : Keeps N_keepers_at 2 (sd_keepers_at C) (db_keepers_at C) := by
  rintro ds M q ex hl ⟨size, r, hs, ks, rfl, s1, hc, hr, hpw, hin, hsub, hlen, h⟩
  show db_keepers_at C _ [some (ringD C size r hs), some (.lst (ks.map D.int)), none, none, none, none, none, none] M
  unfold db_keepers_at
  have hf := hc.few
  have hal := allM_len hc
  infer_instance
  refine ⟨size, r, hs, rfl, s1, hc, fun M1 hk1 => ?_⟩
  infer_instance
  intro c hcn
  refine lc_lst (fun i M' => ∃ M2, Kept M M2 ∧ M2 c = none ∧ M' = mset M2 c (.ls (((allM hs).take i).map fun m => (.tup [.int m, strsT (keepF size r hs m)] : D)))) ?_ ?_ _ ⟨M1, hk1, hcn, rfl⟩
  · rintro M' ⟨M2, hk2, hc2, rfl⟩
    rw [List.length_map, List.take_length]
    refine ⟨rfl, _, mset_same, ?_⟩
    rw [mdel_mset hc2]
    infer_instance
    refine ⟨_, _, _, rfl, rfl, kvs_marks _ (allM hs), fun a ha => ?_⟩
    have hK : Kept M (mset M2 a (.dc (mergeD [] ((allM hs).map fun m => ((Sum.inl m : Key), strsT (keepF size r hs m)))))) := hk2.trans (Kept.new ha)
    have hA : (mset M2 a (.dc (mergeD [] ((allM hs).map fun m => ((Sum.inl m : Key), strsT (keepF size r hs m)))))) a = some (.dc _) := mset_same
    generalize mset M2 a (.dc (mergeD [] ((allM hs).map fun m => ((Sum.inl m : Key), strsT (keepF size r hs m))))) = M3 at *
    obtain ⟨l0, ls, el⟩ : ∃ l0 ls, allM hs = l0 :: ls := by
      cases e : allM hs with
      | nil => exact absurd e (allM_ne hc)
      | cons a b => exact ⟨a, b, rfl⟩
    have hl0 : l0 ∈ allM hs := by rw [el]; exact List.mem_cons_self
    have hmin : ∀ k ∈ allM hs, l0 ≤ k := fun k hk => by
      have hp := ascF_pw (xs := crewM hs)
      have hp2 : (allM hs).Pairwise (· < ·) := hp
      rw [el] at hp2 hk
      rcases List.mem_cons.mp hk with rfl | hk
      · exact Int.le_refl _
      · exact Int.le_of_lt ((List.pairwise_cons.mp hp2).1 k hk)
    infer_instance
    rw [el, List.map_cons]
    refine ix_lst atI_zero ?_
    refine ix_tup (xs := [.int l0, strsT (keepF size r hs l0)]) (atI_nat (n := 1) rfl) ?_
    infer_instance
    intro c3 hc3
    infer_instance
    refine ⟨_, _, rfl, rfl, ?_⟩
    infer_instance
    rw [← List.map_reverse]
    have hnd : (allM hs).Nodup := (ascF_pw (xs := crewM hs)).imp fun h => Int.ne_of_lt h
    have hA3 : a ≠ c3 := fun e => by rw [e] at hA; rw [hc3] at hA; cases hA
    refine for_map D.int (xs := ks.reverse) (fun i env M' => ∃ (w6 w7 : Option D) (v : List Str), M' = mset M3 c3 (.ls ((ks.reverse.take i).map fun k => strsT (keepF size r hs k))) ∧ env = [some (ringD C size r hs), some (.lst (ks.map D.int)), some (.lst ((l0 :: ls).map fun m => (.tup [.int m, strsT (keepF size r hs m)] : D))), some (.cel a), some (strsT v), some (.cel c3), w6, w7] ∧ ∀ k, ks.reverse[i]? = some k → k ∉ allM hs → keepF size r hs k = v) ?_ ?_ _ _ ⟨none, none, keepF size r hs l0, rfl, rfl, fun k hk hno => ?_⟩
    · rintro env M' ⟨w6, w7, v, rfl, rfl, hv⟩
      rw [List.take_length]
      refine ⟨rfl, ?_⟩
      infer_instance
      rw [← List.map_reverse, List.reverse_reverse]
      exact h _ (hK.trans (Kept.new hc3))
    · rintro i k env M' hx ⟨w6, w7, v, rfl, rfl, hv⟩ nx hnx
      refine ⟨rfl, ?_⟩
      have hi := (List.getElem?_eq_some_iff.mp hx).1
      rw [List.length_reverse] at hi
      infer_instance
      refine ⟨_, _, rfl, by rw [mset_ne hA3]; exact hA, ?_⟩
      infer_instance
      refine ⟨_, _, by rw [mset_ne hA3]; exact hA, rfl, ?_⟩
      rw [own_at hnd]
      have ev : ((if k ∈ allM hs then some (strsT (keepF size r hs k)) else none).getD (strsT v)) = strsT (keepF size r hs k) := by
        by_cases hk : k ∈ allM hs
        · rw [if_pos hk]; rfl
        · rw [if_neg hk, hv k hx hk]; rfl
      rw [ev]
      infer_instance
      refine ⟨_, _, rfl, mset_same, ?_⟩
      infer_instance
      refine ⟨_, _, rfl, mset_same, by rw [List.length_map, List.length_take, sizeLine_eq]; omega, hnx _ _ ⟨_, _, keepF size r hs k, ?_, rfl, fun k' hk' hno => ?_⟩⟩
      · rw [mset_mset, List.take_add_one, hx, List.map_append]; rfl
      · -- the next lower one
        obtain ⟨a1, a2⟩ := List.getElem?_eq_some_iff.mp hx
        obtain ⟨b1, b2⟩ := List.getElem?_eq_some_iff.mp hk'
        have hkin : k ∈ ks := List.mem_reverse.mp (List.mem_of_getElem? hx)
        have hkin' : k' ∈ ks := List.mem_reverse.mp (List.mem_of_getElem? hk')
        have hdesc : ks.reverse.Pairwise (fun a b => b < a) := by rw [List.pairwise_reverse]; exact hpw
        have hlt : k' < k := by
          have := List.pairwise_iff_getElem.mp hdesc i (i + 1) a1 b1 (by omega)
          rw [a2, b2] at this; exact this
        have hbet : ∀ j ∈ allM hs, j < k' ∨ k' + (k - k') ≤ j := fun j hj => by
          obtain ⟨n, hn⟩ := List.getElem?_of_mem (List.mem_reverse.mpr (hsub j hj))
          obtain ⟨c1, c2⟩ := List.getElem?_eq_some_iff.mp hn
          by_cases hni : n ≤ i
          · right
            by_cases he : n = i
            · subst he; rw [a2] at c2; omega
            · have := List.pairwise_iff_getElem.mp hdesc n i c1 a1 (by omega)
              rw [c2, a2] at this; omega
          · left
            by_cases he : n = i + 1
            · subst he; rw [b2] at c2; rw [← c2] at hj; exact absurd hj hno
            · have := List.pairwise_iff_getElem.mp hdesc (i + 1) n b1 c1 (by omega)
              rw [c2, b2] at this; omega
        have h1 := hin k hkin
        have h2 := hin k' hkin'
        have := walk_same (p := k') (d := k - k') s1 hc h2.1 h2.2 (by omega) (by omega) hbet
        unfold keepF
        rw [this, show k' + (k - k') = k by omega]
    · -- the greatest one
      have hkin : k ∈ ks := List.mem_reverse.mp (List.mem_of_getElem? hk)
      have hdesc : ks.reverse.Pairwise (fun a b => b < a) := by rw [List.pairwise_reverse]; exact hpw
      obtain ⟨a1, a2⟩ := List.getElem?_eq_some_iff.mp hk
      have hmax : ∀ j ∈ allM hs, l0 ≤ j ∧ j < k := fun j hj => by
        refine ⟨hmin j hj, ?_⟩
        obtain ⟨n, hn⟩ := List.getElem?_of_mem (List.mem_reverse.mpr (hsub j hj))
        obtain ⟨c1, c2⟩ := List.getElem?_eq_some_iff.mp hn
        by_cases he : n = 0
        · subst he; rw [a2] at c2; rw [← c2] at hj; exact absurd hj hno
        · have := List.pairwise_iff_getElem.mp hdesc 0 n a1 c1 (by omega)
          rw [c2, a2] at this; exact this
      have h1 := hin k hkin
      unfold keepF
      rw [walk_wrap s1 hc h1.1 (by omega) hl0 hmax]
  · rintro i x M' hx ⟨M2, hk2, hc2, rfl⟩ nx hnx
    refine ⟨rfl, ?_⟩
    rw [List.getElem?_map] at hx
    obtain ⟨m, hm, rfl⟩ := omap hx
    have hi := (List.getElem?_eq_some_iff.mp hm).1
    infer_instance
    refine ⟨size, r, hs, walkF size hs m, rfl, hc, hr, by rw [walkF_len hc]; exact hf, walkF_in hc, fun M3 hk3 => ?_⟩
    infer_instance
    refine ⟨_, hk3 _ _ mset_same, by rw [List.length_map, List.length_take, sizeLine_eq]; omega, hnx _ ⟨mdel M3 c, ?_, ?_, ?_⟩⟩
    · exact fun b z hb => by
        have hbc : b ≠ c := fun e => by rw [e] at hb; rw [hk2 _ _ hb] at hc2; cases hc2
        unfold mdel
        rw [if_neg hbc]
        exact hk3 _ _ (by rw [mset_ne hbc]; exact hk2 _ _ hb)
    · unfold mdel; rw [if_pos rfl]
    · rw [List.take_add_one, hm, List.map_append]
      funext b
      unfold mset mdel
      by_cases e : b = c
      · rw [if_pos e, if_pos e]; rfl
      · rw [if_neg e, if_neg e, if_neg e]
end R
set_option maxRecDepth 100000
set_option maxHeartbeats 1000000
namespace R
open PySem PySem.Spec PyProof.Rows L2 DL
local macro_rules | `(tactic| bv_omega) => `(tactic| first | assumption | exact mset_same)
local macro_rules | `(tactic| symm) => `(tactic| first
  | ((with_reducible show ∃ _, _ = _ ∧ _); refine ⟨_, rfl, ?_⟩)
  | ((with_reducible show _ = _ ∧ _); refine ⟨rfl, ?_⟩)
  | ((with_reducible show ∃ _ _, _ = _ ∧ _ = _ ∧ _); refine ⟨_, _, rfl, rfl, ?_⟩)
  | ((with_reducible show ∃ _ _, _ = _ ∧ _); refine ⟨_, _, rfl, ?_⟩)
  | ((with_reducible show ∃ _ _ _, _ = _ ∧ _); refine ⟨_, _, _, rfl, ?_⟩)
  | ((with_reducible show (_ ≤ _ ∧ _) ∧ _); refine ⟨by omega, ?_⟩)
  | with_reducible refine add_int ?_ | with_reducible refine sub_int ?_
  | with_reducible refine lt_int ?_ | with_reducible refine le_int ?_ | with_reducible refine gt_int ?_ | with_reducible refine ge_int ?_
  | with_reducible refine int_int ?_
  | with_reducible refine eq_int ?_ | with_reducible refine ne_int ?_
  | with_reducible refine len_tup ?_ | with_reducible refine len_lst ?_
  | ((with_reducible show rdIx (.cel _) (.int _) _ _); refine ix_cel (by bv_omega) (by rfl) ?_)
  | ((with_reducible show rdIx (.lst _) (.int _) _ _); refine ix_lst (by rfl) ?_)
  | ((with_reducible show rdIx (.tup _) (.int _) _ _); refine ix_tup (by rfl) ?_)
  | ((with_reducible show rdLen [.cel _] _ _); refine len_cel (by bv_omega) ?_)
  | ((with_reducible show rdMul (.int _) (.int _) _ _); first | refine mul_l (by decide) (by decide) ?_ | refine mul_r (by decide) (by decide) ?_ | refine mul_l (by omega) (by omega) ?_ | refine mul_r (by omega) (by omega) ?_)
  | ((with_reducible show rdDiv (.int _) (.int _) _ _); refine div_int (by first | decide | assumption | omega) (by first | decide | assumption | omega) ?_)
  | ((with_reducible show rdDivmod [.int _, .int _] _ _); refine dm_int (by first | decide | assumption | omega) (by first | decide | assumption | omega) ?_)
  | ((with_reducible show @ite _ (_ = true) _ _ _); first | refine ifYes (by first | with_reducible rfl | exact Bool.not_false | assumption) ?_ | refine ifNo (by first | with_reducible rfl | exact Bool.not_true | assumption) ?_)
  | ((with_reducible show ∃ _, _ ∧ _); refine ⟨_, celL_of (by bv_omega), ?_⟩)
  | ((with_reducible show ∃ _ _ _ _, _ ∧ _ ∧ _ ∧ _ ∧ _); refine ⟨_, _, _, _, rfl, rfl, by bv_omega, by rfl, ?_⟩)
  | ((with_reducible show (_ : Nat) ≤ sizeLine ∧ _); refine ⟨by rw [sizeLine_eq]; exact Nat.le_of_ble_eq_true rfl, ?_⟩))
local macro_rules | `(tactic| infer_instance) => `(tactic| ((repeat symm); try dsimp only))
local macro_rules | `(tactic| ac_rfl) => `(tactic| ((repeat (first | symm | ((with_reducible show rdMod (.int _) (.int _) _ _); refine mod_any (by first | decide | assumption | omega) ?_; intro _ _ _))); try dsimp only))
theorem split_perm {hs : List Host} : ∀ (ns seen fs os : List Str), ((splitR hs seen fs os ns).1 ++ (splitR hs seen fs os ns).2).Perm (fs ++ os ++ ns)
  | [], seen, fs, os => by
    rw [List.append_nil]
    exact .refl _
  | x :: r, seen, fs, os => by
    unfold splitR
    split
    · refine (split_perm r _ _ _).trans ?_
      rw [List.append_assoc, List.append_assoc, List.append_assoc, List.singleton_append]
    · refine (split_perm r _ _ _).trans ?_
      rw [List.append_assoc, List.append_assoc, List.append_assoc, List.singleton_append]
      refine List.Perm.append_left fs ?_
      exact List.perm_middle.symm
theorem newRacks_perm {hs : List Host} (ns : List Str) : (newRacks hs ns).Perm ns := by
  have := split_perm (hs := hs) ns [] [] []
  simpa [newRacks] using this
theorem zip_edge {α β : Type} (f : α → β) : ∀ l : List α, l.zip (l.map f) = l.map fun x => (x, f x)
  | [] => rfl
  | x :: l => by show (x, f x) :: l.zip (l.map f) = _; rw [zip_edge f l]; rfl
theorem partF_len {size : Int} {ms : List Int} : (partF size ms).length = ms.length := partL_len
theorem partF_edge {size : Int} {ms : List Int} : (partF size ms).map (·.2.2) = ms := partL_edge
theorem kp_cells (C : Addr) : Keeps N_cells 1 (sd_cells C) (db_cells C) := by
  rintro ds M q ex hl ⟨size, r, hs, rfl, s1, hc, hr, h64, h⟩
  show db_cells C _ [some (ringD C size r hs), none, none, none, none, none] M
  unfold db_cells
  have hal := allM_len hc
  infer_instance
  refine ⟨size, r, hs, rfl, ?_⟩
  infer_instance
  refine ⟨_, fs_ring, size, r, hs, rfl, ?_⟩
  infer_instance
  refine ⟨hs, rfl, h64, ?_⟩
  infer_instance
  refine ⟨_, fs_ring, size, r, hs, rfl, ?_⟩
  infer_instance
  refine ⟨allM hs, size, rfl, by omega, allM_ne hc, by omega, ?_⟩
  infer_instance
  refine ⟨size, r, hs, allM hs, rfl, s1, hc, hr, ascF_pw, fun k hk => allM_in hc hk, fun k hk => hk, by omega, fun M' hK => ?_⟩
  infer_instance
  refine ⟨_, _, _, _, rfl, .inr ⟨rfl, rfl, ?_⟩⟩
  intro c hcn
  rw [zipD_map]
  have e1 : (partF size (allM hs)).zip (allM hs) = (partF size (allM hs)).map fun t => (t, t.2.2) := by
    conv => lhs; rw [← partF_edge (size := size) (ms := allM hs)]
    rw [partF_edge]
    conv => lhs; arg 2; rw [← partF_edge (size := size) (ms := allM hs)]
    exact zip_edge _ _
  rw [e1, List.map_map]
  refine lc_all ((fun p : (Int × Int × Int) × Int => (.tup [.tup [.int p.1.1, .int p.1.2.1], strsT (keepF size r hs p.2)] : D)) ∘ fun t => (t, t.2.2)) (cellD size r hs) hcn (by rw [partF_len, sizeLine_eq]; omega) (fun _ => ⟨rfl, rfl⟩) (fun t ht acc hz nx hnx => ?_) ?_
  · show gdTup 2 _ (.tup [.tup [.int t.1, .int t.2.1], strsT (keepF size r hs t.2.2)]) _ _ _ _
    infer_instance
    exact acc_put hz hnx
  · infer_instance
    refine ⟨_, _, rfl, rfl, ?_⟩
    exact h M' hK
/-- the manys of some cells, added -/
theorem cells_sum {α : Type} {env : EnvD} {t : DT} {de : DE} {q : QD} {M : Mem} {g : GD} {size : Int} {r : Rule} {hs : List Host} {c : Addr} {ok : Mem → Prop} (p : Int × Int × Int → Bool) (hc : M c = none) (hl : (partF size (allM hs)).length ≤ 1000) (hok : ∀ acc, ok (mset M c (.ls acc)))
    (hs2 : ∀ x, x ∈ partF size (allM hs) → ∀ (acc : List D), acc.length < sizeLine → ∀ nx : Mem → Prop, (p x = true → nx (mset M c (.ls (acc ++ [.int x.2.1])))) → (p x = false → nx (mset M c (.ls acc))) →
      g (cellD size r hs x) env (mset M c (.ls acc)) (fun env' M' => t env' M' (fun b M2 => if b = true then de env' M2 (fun y M3 => ∃ ys, M3 c = some (.ls ys) ∧ ys.length < sizeLine ∧ nx (mset M3 c (.ls (ys ++ [y])))) noX else nx M2) noX) (fun _ => noX))
    (hq : q (.int (((partF size (allM hs)).filter p).map (·.2.1)).sum) M) : lcW ok g t de env (fun x M1 => rdSum [x] M1 q) c (cellsL size r hs) (mset M c (.ls [])) := by
  refine lc_map (cellD size r hs) p (fun x => .int x.2.1) hc (by rw [sizeLine_eq]; omega) hok hs2 ?_
  refine ⟨_, _, ((partF size (allM hs)).filter p).map (·.2.1), rfl, rfl, ?_, hq⟩
  have := DL.ints_map (((partF size (allM hs)).filter p).map (·.2.1))
  rw [List.map_map] at this
  exact this
theorem kp_kept (C : Addr) : Keeps N_kept 2 (sd_kept C) (db_kept C) := by
  rintro ds M q ex hl ⟨size, r, hs, x, rfl, s1, hc, hr, h64, hx, h⟩
  show db_kept C _ [some (ringD C size r hs), some (.str x), none, none, none] M
  unfold db_kept
  have hal := allM_len hc
  infer_instance
  refine ⟨size, r, hs, rfl, ?_⟩
  infer_instance
  refine ⟨size, r, hs, x, rfl, hc.few, hx, ?_⟩
  infer_instance
  refine ⟨size, r, hs, rfl, s1, hc, hr, h64, fun M' hK => ?_⟩
  infer_instance
  intro c hcn
  refine cells_sum (α := Unit) (fun t => decide (x ∈ keepF size r hs t.2.2)) hcn (by rw [partF_len]; omega) (fun _ => rfl) (fun t ht acc hz nx h1 h2 => ?_) (h M' hK)
  show gdTup 3 _ (.tup [.int t.1, .int t.2.1, strsT (keepF size r hs t.2.2)]) _ _ _ _
  infer_instance
  refine in_str rfl ?_
  infer_instance
  refine ifB (fun e => ?_) (fun e => ?_)
  · infer_instance
    exact acc_put hz (h1 e)
  · exact h2 e
theorem keepF_ne {size p : Int} {r : Rule} {hs : List Host} (hc : CrewOk size hs) (hr : RuleOk r) : ∃ y ys, keepF size r hs p = y :: ys := by
  cases e : keepF size r hs p with
  | cons y ys => exact ⟨y, ys, rfl⟩
  | nil =>
    exfalso
    have hl := walkF_len (p := p) hc
    have hne : walkF size hs p ≠ [] := fun z => by
      rw [z] at hl
      exact hc.ne (List.eq_nil_of_length_eq_zero hl.symm)
    obtain ⟨y, ys, ey⟩ : ∃ y ys, walkF size hs p = y :: ys := by
      cases e2 : walkF size hs p with
      | nil => exact absurd e2 hne
      | cons a b => exact ⟨a, b, rfl⟩
    have hw := hr.w
    have e3 : (if r.spread = "racks" then newRacks hs (walkF size hs p) else walkF size hs p) ≠ [] := by
      split
      · intro z
        have := newRacks_perm (hs := hs) (walkF size hs p)
        rw [z] at this
        exact hne (List.nil_perm.mp this)
      · exact hne
    unfold keepF keepersOf at e
    obtain ⟨n, hn⟩ : ∃ n, r.wide.toNat = n + 1 := ⟨r.wide.toNat - 1, by omega⟩
    rw [hn] at e
    cases e4 : (if r.spread = "racks" then newRacks hs (walkF size hs p) else walkF size hs p) with
    | nil => exact e3 e4
    | cons a b => rw [e4] at e; simp at e
theorem kp_leads (C : Addr) : Keeps N_leads 2 (sd_leads C) (db_leads C) := by
  rintro ds M q ex hl ⟨size, r, hs, x, rfl, s1, hc, hr, h64, hx, h⟩
  show db_leads C _ [some (ringD C size r hs), some (.str x), none, none, none] M
  unfold db_leads
  have hal := allM_len hc
  infer_instance
  refine ⟨size, r, hs, rfl, ?_⟩
  infer_instance
  refine ⟨size, r, hs, x, rfl, hc.few, hx, ?_⟩
  infer_instance
  refine ⟨size, r, hs, rfl, s1, hc, hr, h64, fun M' hK => ?_⟩
  infer_instance
  intro c hcn
  refine cells_sum (α := Unit) (fun t => decide ((keepF size r hs t.2.2).head? = some x)) hcn (by rw [partF_len]; omega) (fun _ => rfl) (fun t ht acc hz nx h1 h2 => ?_) (h M' hK)
  show gdTup 3 _ (.tup [.int t.1, .int t.2.1, strsT (keepF size r hs t.2.2)]) _ _ _ _
  obtain ⟨y, ys, ey⟩ := keepF_ne (p := t.2.2) hc hr
  have e0 : decide (x = y) = decide ((keepF size r hs t.2.2).head? = some x) := by
    rw [ey, List.head?_cons]
    by_cases e : x = y
    · rw [decide_eq_true e, decide_eq_true (by rw [e])]
    · rw [decide_eq_false e, decide_eq_false (fun z => e (Option.some.inj z).symm)]
  infer_instance
  rw [ey]
  refine ix_tup (xs := (y :: ys).map D.str) atI_zero ?_
  infer_instance
  refine .inr ⟨x, y, rfl, rfl, ?_⟩
  rw [e0]
  infer_instance
  refine ifB (fun e => ?_) (fun e => ?_)
  · infer_instance
    exact acc_put hz (h1 e)
  · exact h2 e
theorem kp_shares (C : Addr) : Keeps N_shares 1 (sd_shares C) (db_shares C) := by
  rintro ds M q ex hl ⟨size, r, hs, rfl, s1, hc, hr, h64, h⟩
  show db_shares C _ [some (ringD C size r hs), none, none, none, none, none] M
  unfold db_shares
  have hal := allM_len hc
  have hf := hc.few
  infer_instance
  refine ⟨size, r, hs, rfl, s1, hc, hr, h64, fun M' hK => ?_⟩
  infer_instance
  refine ⟨_, fs_ring, size, r, hs, rfl, hf, fun ys hp hs2 => ?_⟩
  infer_instance
  intro c hcn
  have hyl : ys.length ≤ 12 := by rw [hp.length_eq, List.length_map]; exact hf
  refine lc_all D.str (fun x => .tup [.str x, .int (keptN size r hs x)]) hcn (by rw [sizeLine_eq]; omega) (fun _ => rfl) (fun x hx acc hz nx hnx => ?_) ?_
  · infer_instance
    intro c2 hc2
    refine cells_sum (α := Unit) (fun t => decide (x ∈ keepF size r hs t.2.2)) hc2 (by rw [partF_len]; omega) (fun _ => rfl) (fun t ht acc hz nx h1 h2 => ?_) ?_
    · show gdTup 3 _ (.tup [.int t.1, .int t.2.1, strsT (keepF size r hs t.2.2)]) _ _ _ _
      infer_instance
      refine in_str rfl ?_
      infer_instance
      refine ifB (fun e => ?_) (fun e => ?_)
      · infer_instance
        exact acc_put hz (h1 e)
      · exact h2 e
    · infer_instance
      exact acc_put hz hnx
  · infer_instance
    refine ⟨_, _, rfl, rfl, ?_⟩
    exact h ys M' hp hs2 hK
theorem kp_greatest (C : Addr) : Keeps N_greatest 1 (sd_greatest C) (db_greatest C) := by
  rintro ds M q ex hl ⟨size, r, hs, rfl, s1, hc, hr, h64, h⟩
  show db_greatest C _ [some (ringD C size r hs), none, none] M
  unfold db_greatest
  have hf := hc.few
  infer_instance
  refine ⟨size, r, hs, rfl, s1, hc, hr, h64, fun ys M' hp hs2 hK => ?_⟩
  infer_instance
  intro c hcn
  have hyl : ys.length = hs.length := by rw [hp.length_eq, List.length_map]
  refine lc_all (fun x : Str => (.tup [.str x, .int (keptN size r hs x)] : D)) (fun x => .int (keptN size r hs x)) hcn (by rw [sizeLine_eq]; omega) (fun _ => rfl) (fun x hx acc hz nx hnx => ?_) ?_
  · infer_instance
    exact acc_put hz hnx
  · have e : (ys.map fun x => (.int (keptN size r hs x) : D)) = (ys.map fun x => keptN size r hs x).map D.int := by rw [List.map_map]; rfl
    rw [e]
    have h0 : 0 < hs.length := List.length_pos_iff.mpr hc.ne
    refine ⟨_, _, _, rfl, rfl, DL.ints_map _, by rw [List.length_map]; omega, fun m hm hmx => ?_⟩
    obtain ⟨x, hx, rfl⟩ := List.mem_map.mp hm
    exact h _ M' ⟨x, hp.mem_iff.mp hx, rfl⟩ (fun y hy => hmx _ (List.mem_map.mpr ⟨y, hp.mem_iff.mpr hy, rfl⟩)) hK
end R
set_option maxRecDepth 100000
set_option maxHeartbeats 1000000
namespace R
open PySem PySem.Spec PyProof.Rows L2 DL
local macro_rules | `(tactic| bv_omega) => `(tactic| first | assumption | exact mset_same)
local macro_rules | `(tactic| symm) => `(tactic| first
  | ((with_reducible show ∃ _, _ = _ ∧ _); refine ⟨_, rfl, ?_⟩)
  | ((with_reducible show _ = _ ∧ _); refine ⟨rfl, ?_⟩)
  | ((with_reducible show ∃ _ _, _ = _ ∧ _ = _ ∧ _); refine ⟨_, _, rfl, rfl, ?_⟩)
  | ((with_reducible show ∃ _ _, _ = _ ∧ _); refine ⟨_, _, rfl, ?_⟩)
  | ((with_reducible show ∃ _ _ _, _ = _ ∧ _); refine ⟨_, _, _, rfl, ?_⟩)
  | ((with_reducible show (_ ≤ _ ∧ _) ∧ _); refine ⟨by omega, ?_⟩)
  | with_reducible refine add_int ?_ | with_reducible refine sub_int ?_
  | with_reducible refine lt_int ?_ | with_reducible refine le_int ?_ | with_reducible refine gt_int ?_ | with_reducible refine ge_int ?_
  | with_reducible refine int_int ?_
  | with_reducible refine eq_int ?_ | with_reducible refine ne_int ?_
  | with_reducible refine len_tup ?_ | with_reducible refine len_lst ?_
  | ((with_reducible show rdIx (.cel _) (.int _) _ _); refine ix_cel (by bv_omega) (by rfl) ?_)
  | ((with_reducible show rdIx (.lst _) (.int _) _ _); refine ix_lst (by rfl) ?_)
  | ((with_reducible show rdIx (.tup _) (.int _) _ _); refine ix_tup (by rfl) ?_)
  | ((with_reducible show rdLen [.cel _] _ _); refine len_cel (by bv_omega) ?_)
  | ((with_reducible show rdMul (.int _) (.int _) _ _); first | refine mul_l (by decide) (by decide) ?_ | refine mul_r (by decide) (by decide) ?_ | refine mul_l (by omega) (by omega) ?_ | refine mul_r (by omega) (by omega) ?_)
  | ((with_reducible show rdDiv (.int _) (.int _) _ _); refine div_int (by first | decide | assumption | omega) (by first | decide | assumption | omega) ?_)
  | ((with_reducible show rdDivmod [.int _, .int _] _ _); refine dm_int (by first | decide | assumption | omega) (by first | decide | assumption | omega) ?_)
  | ((with_reducible show @ite _ (_ = true) _ _ _); first | refine ifYes (by first | with_reducible rfl | exact Bool.not_false | assumption) ?_ | refine ifNo (by first | with_reducible rfl | exact Bool.not_true | assumption) ?_)
  | ((with_reducible show ∃ _, _ ∧ _); refine ⟨_, celL_of (by bv_omega), ?_⟩)
  | ((with_reducible show ∃ _ _ _ _, _ ∧ _ ∧ _ ∧ _ ∧ _); refine ⟨_, _, _, _, rfl, rfl, by bv_omega, by rfl, ?_⟩)
  | ((with_reducible show (_ : Nat) ≤ sizeLine ∧ _); refine ⟨by rw [sizeLine_eq]; exact Nat.le_of_ble_eq_true rfl, ?_⟩))
local macro_rules | `(tactic| infer_instance) => `(tactic| ((repeat symm); try dsimp only))
local macro_rules | `(tactic| ac_rfl) => `(tactic| ((repeat (first | symm | ((with_reducible show rdMod (.int _) (.int _) _ _); refine mod_any (by first | decide | assumption | omega) ?_; intro _ _ _))); try dsimp only))
theorem nodup_asc {ns : List Int} (h : ns.Pairwise (· ≤ ·)) (hn : ns.Nodup) : ns.Pairwise (· < ·) := by
  refine (List.pairwise_and_iff.mpr ⟨h, hn⟩).imp fun {a b} hab => ?_
  have h1 := hab.1
  have h2 : a ≠ b := hab.2
  omega
structure Part (size : Int) (tags bays : List Str) (hs : List Host) (ts : List Int) : Prop where
  each : ∀ (i : Nat) h, hs[i]? = some h → NextOk size (hs.take i) h
  name : hs.map (·.name) = tags.take hs.length
  has : ∀ o ∈ hs, ∀ m ∈ o.marks, m ∈ ts
  few : ts.length ≤ 16 * hs.length
theorem kp_band (C : Addr) : Keeps N_band 4 (sd_band C) (db_band C) := by
  rintro ds M q ex hl ⟨k, size, g, most, each, rfl, s0, m1, m2, e1, e2, hK, hg, h⟩
  show db_band C _ [some (.cel k), some (.int size), some (.int most), some (.int each), none, none, none, none, none, none, none, none, none, none] M
  unfold db_band
  ac_rfl
  refine ⟨k, _, _, rfl, by omega, by omega, hK, by omega, fun v M1 v0 v1 hB1 hK1 => ?_⟩
  ac_rfl
  refine min_int fun many hm1 hm2 hm3 => ?_
  ac_rfl
  intro ct hct
  ac_rfl
  intro cf hcf
  have hctk := kg_ne hK1 hct
  have hcf1 : M1 cf = none := by
    by_cases e : cf = ct
    · rw [e, mset_same] at hcf; cases hcf
    · rw [mset_ne e] at hcf; exact hcf
  have hcft : cf ≠ ct := fun e => by rw [e, mset_same] at hcf; cases hcf
  have hcfk := kg_ne hK1 hcf1
  obtain ⟨n, rfl⟩ := Int.eq_ofNat_of_zero_le (show 0 ≤ many by omega)
  have hn1 : 1 ≤ n := by omega
  have hn2 : n ≤ most := by omega
  ac_rfl
  have hK2 : Kg (mset (mset M1 ct (.ls [])) cf (.ls [])) k (g + 1) := by
    obtain ⟨a, b, d, h3, h4⟩ := hK1
    exact ⟨a, b, d, by rw [mset_ne (Ne.symm hcfk), mset_ne (Ne.symm hctk)]; exact h3, h4⟩
  refine ⟨k, n, _, rfl, by omega, hK2, by omega, fun tags M3 tl tnd tok hB3 hK3 => ?_⟩
  ac_rfl
  refine ⟨k, n, _, rfl, by omega, hK3, by omega, fun bays M4 bl bok hB4 hK4 => ?_⟩
  ac_rfl
  have hcf4 : M4 cf = some (.ls []) := hB4 cf _ (hB3 cf _ mset_same hcfk) hcfk
  have hct4 : M4 ct = some (.ls []) := hB4 ct _ (hB3 ct _ (by rw [mset_ne (Ne.symm hcft), mset_same]) hctk) hctk
  have hBM4 : KeptB k M M4 := by
    intro c x e ne
    have x1 := hB1 c x e ne
    have n1 : c ≠ ct := fun z => by rw [z, hct] at x1; cases x1
    have n2 : c ≠ cf := fun z => by rw [z, hcf1] at x1; cases x1
    exact hB4 c x (hB3 c x (by rw [mset_ne n2, mset_ne n1]; exact x1) ne) ne
  have hctM : M ct = none := by
    cases e : M ct with
    | none => rfl
    | some x => have := hB1 ct x e hctk; rw [hct] at this; cases this
  have hcfM : M cf = none := by
    cases e : M cf with
    | none => rfl
    | some x => have := hB1 cf x e hcfk; rw [hcf1] at this; cases this
  refine for_rng (n := ((n : Nat) : Int).toNat) (fun i env M' => ∃ (hs : List Host) (ts : List Int) (w9 w10 w11 w12 w13 : Option D), env = [some (.cel k), some (.int size), some (.int most), some (.int each), some (.int n), some (.cel ct), some (.cel cf), some (strsL tags), some (strsL bays), w9, w10, w11, w12, w13] ∧
      M' ct = some (.ls (ts.map D.int)) ∧ M' cf = some (.ls (hs.map hostD)) ∧ hs.length = i ∧ Part size tags bays hs ts ∧ (∀ o ∈ hs, o.marks.length ≤ each) ∧ (ts.length : Int) + (n - i) ≤ size ∧ (∀ m ∈ ts, 0 ≤ m ∧ m < size) ∧ KeptB k M M' ∧ Kg M' k (g + 901 + 400 * i)) ?_ ?_ _ _
    ⟨[], [], none, none, none, none, none, rfl, hct4, hcf4, rfl, ⟨fun i h e => by simp at e, rfl, fun o ho => by simp at ho, Nat.zero_le _⟩, fun o ho => by simp at ho, by simp; omega, fun m hm => by simp at hm, hBM4, kg_le hK4 (by omega)⟩
  · rintro env M' ⟨hs, ts, w9, w10, w11, w12, w13, rfl, hT, hF, hi, hP, hE, hz, hin, hB, hK'⟩
    refine ⟨trivial, ?_⟩
    ac_rfl
    refine ⟨.cel cf, _, rfl, celL_of hF, ?_⟩
    refine h hs M' ⟨fun e => by rw [e] at hi; simp at hi; omega, by omega, hP.each⟩ ⟨by omega, hE⟩ hB (kg_le hK' (by omega))
  · rintro i env M' hi ⟨hs, ts, w9, w10, w11, w12, w13, rfl, hT, hF, hlen, hP, hE, hz, hin, hB, hK'⟩ nx hnx
    refine ⟨trivial, ?_⟩
    ac_rfl
    intro cs hcs
    have hcst : cs ≠ ct := fun e => by rw [e, hT] at hcs; cases hcs
    have hcsf : cs ≠ cf := fun e => by rw [e, hF] at hcs; cases hcs
    have hcsk := kg_ne hK' hcs
    have hcsM : M cs = none := by
      cases e : M cs with
      | none => rfl
      | some x => have := hB cs x e hcsk; rw [hcs] at this; cases this
    have hT1 : (mset M' cs (.ls [])) ct = some (.ls (ts.map D.int)) := by rw [mset_ne (Ne.symm hcst)]; exact hT
    have hF1 : (mset M' cs (.ls [])) cf = some (.ls (hs.map hostD)) := by rw [mset_ne (Ne.symm hcsf)]; exact hF
    have hKc : Kg (mset M' cs (.ls [])) k (g + 901 + 400 * i) := by
      obtain ⟨a, b, d, h3, h4⟩ := hK'
      exact ⟨a, b, d, by rw [mset_ne (Ne.symm hcsk)]; exact h3, h4⟩
    infer_instance
    rw [List.length_map]
    refine ⟨k, _, _, rfl, by omega, by omega, hKc, by omega, fun v2 M5 v20 v21 hB5 hK5 => ?_⟩
    infer_instance
    refine min_int fun mj hj1 hj2 hj3 => ?_
    infer_instance
    obtain ⟨mn, rfl⟩ := Int.eq_ofNat_of_zero_le (show 0 ≤ mj by omega)
    have hroom : (mn : Int) ≤ size - ts.length - (n - 1 - i) := by omega
    have hmn1 : 1 ≤ mn := by omega
    have hmn2 : mn ≤ 16 := by omega
    refine for_rng (n := ((mn : Nat) : Int).toNat) (fun j env M6 => ∃ (ss : List Int) (w12 w13 : Option D), env = [some (.cel k), some (.int size), some (.int most), some (.int each), some (.int n), some (.cel ct), some (.cel cf), some (strsL tags), some (strsL bays), some (.int (0 + (i : Nat))), some (.cel cs), some (.int (size - ts.length - (n - 1 - (0 + (i : Nat))))), w12, w13] ∧
        M6 ct = some (.ls ((ts ++ ss).map D.int)) ∧ M6 cf = some (.ls (hs.map hostD)) ∧ M6 cs = some (.ls (ss.map D.int)) ∧ ss.length = j ∧ ss.Nodup ∧ (∀ m ∈ ss, 0 ≤ m ∧ m < size ∧ m ∉ ts) ∧ KeptB k M M6 ∧ Kg M6 k (g + 901 + 400 * i + 1 + 20 * j)) ?_ ?_ _ _
      ⟨[], _, _, rfl, by rw [List.append_nil]; exact hB5 ct _ hT1 hctk, hB5 cf _ hF1 hcfk, hB5 cs _ mset_same hcsk, rfl, .nil, fun m hm => by simp at hm, (hB.put hcsM).trans hB5, kg_le hK5 (by omega)⟩
    · rintro env M6 ⟨ss, w12, w13, rfl, hT6, hF6, hS6, hsl, hsn, hsi, hB6, hK6⟩
      refine ⟨trivial, ?_⟩
      have hin' : i < n := by omega
      obtain ⟨tg, htg⟩ : ∃ x, tags[i]? = some x := ⟨_, List.getElem?_eq_getElem (by omega)⟩
      obtain ⟨by_, hby⟩ : ∃ x, bays[i]? = some x := ⟨_, List.getElem?_eq_getElem (by omega)⟩
      have e0 : (0 : Int) + (i : Nat) = (i : Nat) := by omega
      infer_instance
      refine ⟨cf, _, rfl, hF6, ?_⟩
      infer_instance
      refine ix_lst (d := .str tg) (by rw [e0]; exact DL.atI_nat (by rw [List.getElem?_map, htg]; rfl)) ?_
      infer_instance
      refine ix_lst (d := .str by_) (by rw [e0]; exact DL.atI_nat (by rw [List.getElem?_map, hby]; rfl)) ?_
      infer_instance
      refine ⟨_, _, ss, rfl, celL_of hS6, ints_map ss, fun ns' hp hs' => ?_⟩
      infer_instance
      have hlh : hs.length < 12 := by omega
      refine ⟨_, _, rfl, rfl, ?_⟩
      infer_instance
      refine ⟨_, _, rfl, hF6, by rw [List.length_map, sizeLine_eq]; omega, ?_⟩
      have hnl : ns'.length = ss.length := hp.length_eq
      have hjl : ss.length = mn := by omega
      refine hnx _ _ ⟨hs ++ [⟨tg, by_, ns'⟩], ts ++ ss, _, _, _, _, _, rfl, by rw [mset_ne (Ne.symm hcft)]; exact hT6, by rw [mset_same, List.map_append]; rfl, by rw [List.length_append, hlen]; rfl, ⟨fun j o ho => ?_, ?_, fun o ho m hm => ?_, ?_⟩, fun o ho => ?_, ?_, fun m hm => ?_, hB6.put hcfM, ?_⟩
      · by_cases hji : j < hs.length
        · rw [List.getElem?_append_left hji] at ho
          rw [List.take_append_of_le_length (by omega)]
          exact hP.each j o ho
        · rw [List.getElem?_append_right (by omega)] at ho
          have hj0 : j - hs.length = 0 := by
            cases hh : j - hs.length with
            | zero => rfl
            | succ n => rw [hh] at ho; simp at ho
          rw [hj0] at ho
          have ho' : (⟨tg, by_, ns'⟩ : Host) = o := by simpa using ho
          subst ho'
          have ej : j = hs.length := by omega
          subst ej
          rw [List.take_append_of_le_length (Nat.le_refl _), List.take_length]
          refine ⟨tok tg (List.mem_of_getElem? htg), bok by_ (List.mem_of_getElem? hby), fun o ho e => ?_, ⟨by show 1 ≤ ns'.length; omega, by show ns'.length ≤ 16; omega, nodup_asc hs' (hp.nodup_iff.mpr hsn), fun m hm => ?_⟩, fun o ho m hm hm2 => ?_⟩
          · have hmem : o.name ∈ tags.take hs.length := by rw [← hP.name]; exact List.mem_map.mpr ⟨o, ho, rfl⟩
            obtain ⟨a, ha⟩ := List.getElem?_of_mem hmem
            have hal : a < hs.length := by
              have := (List.getElem?_eq_some_iff.mp ha).1
              rw [List.length_take] at this; omega
            rw [List.getElem?_take, if_pos hal] at ha
            obtain ⟨p1, q1⟩ := List.getElem?_eq_some_iff.mp ha
            obtain ⟨p2, q2⟩ := List.getElem?_eq_some_iff.mp htg
            have := List.pairwise_iff_getElem.mp tnd a i p1 p2 (by omega)
            rw [q1, q2] at this
            exact this e
          · have := hsi m (hp.mem_iff.mp hm)
            exact ⟨this.1, this.2.1⟩
          · exact (hsi m (hp.mem_iff.mp hm)).2.2 (hP.has o ho m hm2)
      · rw [List.map_append, hP.name, List.length_append, List.length_singleton]
        rw [hlen, List.take_succ, htg]
        rfl
      · rcases List.mem_append.mp ho with ho | ho
        · exact List.mem_append.mpr (.inl (hP.has o ho m hm))
        · rw [List.mem_singleton.mp ho] at hm
          exact List.mem_append.mpr (.inr (hp.mem_iff.mp hm))
      · have := hP.few
        rw [List.length_append, List.length_append, List.length_singleton]; omega
      · rcases List.mem_append.mp ho with ho | ho
        · exact hE o ho
        · rw [List.mem_singleton.mp ho]
          show ns'.length ≤ each
          omega
      · rw [List.length_append]; omega
      · rcases List.mem_append.mp hm with hm | hm
        · exact hin m hm
        · have := hsi m hm
          exact ⟨this.1, this.2.1⟩
      · obtain ⟨a, b, d, h3, h4, h5, h6, h7⟩ := hK6
        exact ⟨a, b, d, by rw [mset_ne (Ne.symm hcfk)]; exact h3, h4, h5, h6, by omega⟩
    · rintro j env M6 hj ⟨ss, w12, w13, rfl, hT6, hF6, hS6, hsl, hsn, hsi, hB6, hK6⟩ nx2 hnx2
      refine ⟨trivial, ?_⟩
      have hPf := hP.few
      infer_instance
      refine ⟨k, size, _, .cel ct, ts ++ ss, rfl, (fun z => hctk (D.cel.inj z)), celL_of hT6, by rw [List.length_append]; omega, s0, hK6, by omega, fun v3 M7 v30 v31 hB7 hK7 => ?_⟩
      infer_instance
      have hT7 := hB7 ct _ hT6 hctk
      have hF7 := hB7 cf _ hF6 hcfk
      have hS7 := hB7 cs _ hS6 hcsk
      refine ⟨size, v3, .cel ct, ts ++ ss, rfl, celL_of hT7, by rw [List.length_append]; omega, by rw [List.length_append]; omega, fun v4 v40 v41 hni => ?_⟩
      infer_instance
      refine ⟨cs, _, rfl, hS7, ?_⟩
      infer_instance
      refine ⟨_, _, rfl, hS7, by rw [List.length_map, sizeLine_eq]; omega, ?_⟩
      infer_instance
      refine ⟨ct, _, rfl, by rw [mset_ne (Ne.symm hcst)]; exact hT7, ?_⟩
      infer_instance
      refine ⟨_, _, rfl, by rw [mset_ne (Ne.symm hcst)]; exact hT7, by rw [List.length_map, List.length_append, sizeLine_eq]; omega, ?_⟩
      have hni1 : v4 ∉ ts := fun z => hni (List.mem_append.mpr (.inl z))
      have hni2 : v4 ∉ ss := fun z => hni (List.mem_append.mpr (.inr z))
      refine hnx2 _ _ ⟨ss ++ [v4], _, _, rfl, ?_, ?_, ?_, by rw [List.length_append, hsl]; rfl, ?_, fun m hm => ?_, ?_, ?_⟩
      · rw [mset_same, ← List.append_assoc, List.map_append (l₂ := [v4])]; rfl
      · rw [mset_ne hcft, mset_ne (Ne.symm hcsf)]; exact hF7
      · rw [mset_ne hcst, mset_same, List.map_append]; rfl
      · rw [List.nodup_append]
        refine ⟨hsn, by simp, fun a ha b hb => ?_⟩
        rw [List.mem_singleton.mp hb]
        rintro rfl
        exact hni2 ha
      · rcases List.mem_append.mp hm with hm | hm
        · exact hsi m hm
        · rw [List.mem_singleton.mp hm]; exact ⟨v40, v41, hni1⟩
      · exact ((hB6.trans hB7).put hcsM).put hctM
      · obtain ⟨a, b, d, h3, h4, h5, h6, h7⟩ := hK7
        exact ⟨a, b, d, by rw [mset_ne (Ne.symm hctk), mset_ne (Ne.symm hcsk)]; exact h3, h4, h5, h6, by omega⟩
end R
set_option maxRecDepth 100000
set_option maxHeartbeats 1000000
namespace R
open PySem PySem.Spec PyProof.Rows L2 DL
local macro_rules | `(tactic| bv_omega) => `(tactic| first | assumption | exact mset_same)
local macro_rules | `(tactic| symm) => `(tactic| first
  | ((with_reducible show ∃ _, _ = _ ∧ _); refine ⟨_, rfl, ?_⟩)
  | ((with_reducible show _ = _ ∧ _); refine ⟨rfl, ?_⟩)
  | ((with_reducible show ∃ _ _, _ = _ ∧ _ = _ ∧ _); refine ⟨_, _, rfl, rfl, ?_⟩)
  | ((with_reducible show ∃ _ _, _ = _ ∧ _); refine ⟨_, _, rfl, ?_⟩)
  | ((with_reducible show ∃ _ _ _, _ = _ ∧ _); refine ⟨_, _, _, rfl, ?_⟩)
  | ((with_reducible show (_ ≤ _ ∧ _) ∧ _); refine ⟨by omega, ?_⟩)
  | with_reducible refine add_int ?_ | with_reducible refine sub_int ?_
  | with_reducible refine lt_int ?_ | with_reducible refine le_int ?_ | with_reducible refine gt_int ?_ | with_reducible refine ge_int ?_
  | with_reducible refine int_int ?_
  | with_reducible refine eq_int ?_ | with_reducible refine ne_int ?_
  | with_reducible refine len_tup ?_ | with_reducible refine len_lst ?_
  | ((with_reducible show rdIx (.cel _) (.int _) _ _); refine ix_cel (by bv_omega) (by rfl) ?_)
  | ((with_reducible show rdIx (.lst _) (.int _) _ _); refine ix_lst (by rfl) ?_)
  | ((with_reducible show rdIx (.tup _) (.int _) _ _); refine ix_tup (by rfl) ?_)
  | ((with_reducible show rdLen [.cel _] _ _); refine len_cel (by bv_omega) ?_)
  | ((with_reducible show rdMul (.int _) (.int _) _ _); first | refine mul_l (by decide) (by decide) ?_ | refine mul_r (by decide) (by decide) ?_ | refine mul_l (by omega) (by omega) ?_ | refine mul_r (by omega) (by omega) ?_)
  | ((with_reducible show rdDiv (.int _) (.int _) _ _); refine div_int (by first | decide | assumption | omega) (by first | decide | assumption | omega) ?_)
  | ((with_reducible show rdDivmod [.int _, .int _] _ _); refine dm_int (by first | decide | assumption | omega) (by first | decide | assumption | omega) ?_)
  | ((with_reducible show @ite _ (_ = true) _ _ _); first | refine ifYes (by first | with_reducible rfl | exact Bool.not_false | assumption) ?_ | refine ifNo (by first | with_reducible rfl | exact Bool.not_true | assumption) ?_)
  | ((with_reducible show ∃ _, _ ∧ _); refine ⟨_, celL_of (by bv_omega), ?_⟩)
  | ((with_reducible show ∃ _ _ _ _, _ ∧ _ ∧ _ ∧ _ ∧ _); refine ⟨_, _, _, _, rfl, rfl, by bv_omega, by rfl, ?_⟩)
  | ((with_reducible show (_ : Nat) ≤ sizeLine ∧ _); refine ⟨by rw [sizeLine_eq]; exact Nat.le_of_ble_eq_true rfl, ?_⟩))
local macro_rules | `(tactic| infer_instance) => `(tactic| ((repeat symm); try dsimp only))
local macro_rules | `(tactic| ac_rfl) => `(tactic| ((repeat (first | symm | ((with_reducible show rdMod (.int _) (.int _) _ _); refine mod_any (by first | decide | assumption | omega) ?_; intro _ _ _))); try dsimp only))
def triD (t : Int × Int × Int) : D := .tup [.int t.1, .int t.2.1, .int t.2.2]
def sd_parted (C : Addr) : SpD := fun ds M q _ => ∃ (size : Int) (es : List Int), ds = [.int size, .lst (es.map D.int)] ∧ 0 < size ∧ es ≠ [] ∧ es.length ≤ 1000 ∧ q (.lst ((partF size es).map triD)) M
theorem borders_all {size : Int} {hs : List Host} (hc : CrewOk size hs) {ms : List Int} (hp : ms.Perm (hs.flatMap (·.marks))) (hs2 : ms.Pairwise (· ≤ ·)) : ms = allM hs := by
  have hn : ms.Nodup := hp.nodup_iff.mpr (own_nd hc)
  refine asc_all (nodup_asc hs2 hn) fun k => ?_
  exact hp.mem_iff
theorem far_eq {size p : Int} {hs : List Host} (hc : CrewOk size hs) {ns : List Str} (h : WalkOf size p hs ns) : ns = walkF size hs p := walk_eq hc h
theorem mod_lo {size x : Int} (h0 : 0 ≤ x) (h1 : x < size) : x % size = x := Int.emod_eq_of_lt h0 h1
theorem mod_up {size x : Int} (h0 : -size ≤ x) (h1 : x < 0) : x % size = x + size := by
  have e : x = (x + size) + size * (-1) := by omega
  conv => lhs; rw [e, Int.add_mul_emod_self_left]
  exact Int.emod_eq_of_lt (by omega) (by omega)
theorem last_mem {ms : List Int} (h : ms ≠ []) : ms.getLastD 0 ∈ ms := by
  cases ms with
  | nil => exact absurd rfl h
  | cons a r => rw [List.getLastD_cons]; simp [List.getLastD_eq_getLast?]; cases r with
    | nil => left; rfl
    | cons b s => right; rw [List.getLast?_eq_some_getLast (by simp)]; exact List.getLast_mem _
theorem last_max : ∀ {ms : List Int}, ms.Pairwise (· < ·) → ∀ m ∈ ms, m ≤ ms.getLastD 0
  | [], _, m, hm => by simp at hm
  | [a], _, m, hm => by rw [List.mem_singleton.mp hm]; exact Int.le_refl _
  | a :: b :: r, hp, m, hm => by
    rw [List.pairwise_cons] at hp
    have e : (a :: b :: r).getLastD 0 = (b :: r).getLastD 0 := by simp [List.getLastD_cons]
    rw [e]
    rcases List.mem_cons.mp hm with rfl | hm
    · have h1 := hp.1 b (by simp)
      have h2 := last_max hp.2 b (by simp)
      omega
    · exact last_max hp.2 m hm
def sumTo (f : Int → Int) : Nat → Int
  | 0 => 0
  | n + 1 => sumTo f n + f (n : Nat)
theorem sumTo_const {f : Int → Int} {c : Int} (a : Nat) : ∀ k : Nat, (∀ p : Int, (a : Int) ≤ p → p < (a : Int) + k → f p = c) → sumTo f (a + k) = sumTo f a + k * c
  | 0, _ => by simp
  | k + 1, h => by
    have ih := sumTo_const a k fun p h1 h2 => h p h1 (by omega)
    show sumTo f (a + k) + f ((a + k : Nat) : Int) = _
    rw [ih, h _ (by omega) (by omega)]
    have : ((k + 1 : Nat) : Int) * c = (k : Int) * c + c := by rw [Int.natCast_add, Int.add_mul]; simp
    omega
theorem sumTo_iv {f : Int → Int} {c : Int} {a b : Int} (a0 : 0 ≤ a) (hab : a ≤ b) (h : ∀ p : Int, a ≤ p → p < b → f p = c) : sumTo f b.toNat = sumTo f a.toNat + (b - a) * c := by
  have := sumTo_const (f := f) (c := c) a.toNat (b - a).toNat fun p h1 h2 => h p (by omega) (by omega)
  rw [show a.toNat + (b - a).toNat = b.toNat by omega] at this
  rw [this, show (((b - a).toNat : Nat) : Int) = b - a by omega]
def wsum (c : Int → Int) (l : List (Int × Int × Int)) : Int := (l.map fun t => t.2.1 * c t.2.2).sum
theorem part_sum {size : Int} {f c : Int → Int} : ∀ {ms : List Int} {b : Int}, 0 ≤ b → (b :: ms).Pairwise (· < ·) → (∀ m ∈ ms, m < size) → (∀ p : Int, b < p → p < size → ∀ m ∈ ms, p ≤ m → (∀ k ∈ ms, k < p ∨ m ≤ k) → f p = c m) →
    wsum c (partL size b ms) = sumTo f ((b :: ms).getLastD 0 + 1).toNat - sumTo f (b + 1).toNat
  | [], b, _, _, _, _ => by simp [wsum, partL]
  | m :: r, b, b0, hp, hm, h => by
    rw [List.pairwise_cons] at hp
    have hbm := hp.1 m (by simp)
    have hm1 := hm m (by simp)
    have hr := List.pairwise_cons.mp hp.2
    have ih := part_sum (f := f) (c := c) (ms := r) (b := m) (by omega) hp.2 (fun x hx => hm x (List.mem_cons_of_mem _ hx)) fun p h1 h2 k hk h3 h4 => h p (by omega) h2 k (List.mem_cons_of_mem _ hk) h3 fun j hj => by
      rcases List.mem_cons.mp hj with rfl | hj
      · exact .inl h1
      · exact h4 j hj
    have e1 : wsum c (partL size b (m :: r)) = ((m - b - 1) % size + 1) * c m + wsum c (partL size m r) := by
      show (((((b + 1) % size, (m - b - 1) % size + 1, m) :: partL size m r).map _).sum) = _
      rw [List.map_cons, List.sum_cons]; rfl
    have e2 : (b :: m :: r).getLastD 0 = (m :: r).getLastD 0 := by simp [List.getLastD_cons]
    have e3 := sumTo_iv (f := f) (c := c m) (a := b + 1) (b := m + 1) (by omega) (by omega) fun p h1 h2 => h p (by omega) (by omega) m (by simp) (by omega) fun k hk => by
      rcases List.mem_cons.mp hk with rfl | hk
      · exact .inr (Int.le_refl _)
      · exact .inr (Int.le_of_lt (hr.1 k hk))
    rw [e1, ih, e2, mod_lo (x := m - b - 1) (by omega) (by omega), e3]
    rw [show m - b - 1 + 1 = m + 1 - (b + 1) by omega]
    omega
/-- what is the same for all keys of a cell, added up over all keys -/
theorem cells_sumTo {size : Int} {hs : List Host} (s1 : 1 ≤ size) (hc : CrewOk size hs) (g : List Str → Int) : wsum (fun m => g (walkF size hs m)) (partF size (allM hs)) = sumTo (fun p => g (walkF size hs p)) size.toNat := by
  have hpw : (allM hs).Pairwise (· < ·) := ascF_pw
  have hin : ∀ k ∈ allM hs, 0 ≤ k ∧ k < size := fun k hk => allM_in hc hk
  have hne := allM_ne hc
  have key : ∀ ms : List Int, ms = allM hs → wsum (fun m => g (walkF size hs m)) (partF size ms) = sumTo (fun p => g (walkF size hs p)) size.toNat := by
    intro ms e
    cases ms with
    | nil => exact absurd e.symm hne
    | cons m r =>
      rw [← e] at hpw hin
      have hlm := last_mem (ms := m :: r) (by simp)
      have hmax := last_max hpw
      have hp2 := List.pairwise_cons.mp hpw
      have hm := hin m (by simp)
      have hl := hin _ hlm
      have hml := hmax m (by simp)
      have hmr : ∀ x ∈ r, x < size := fun x hx => (hin x (List.mem_cons_of_mem _ hx)).2
      have ps := part_sum (size := size) (f := fun p => g (walkF size hs p)) (c := fun m => g (walkF size hs m)) (ms := r) hm.1 hpw hmr fun p h1 h2 k hk h3 h4 => by
        have hk2 := hin k (List.mem_cons_of_mem _ hk)
        have := walk_same (p := p) (d := k - p) s1 hc (by omega) h2 (by omega) (by omega) fun j hj => by
          rw [← e] at hj
          rcases List.mem_cons.mp hj with rfl | hj
          · left; exact h1
          · rcases h4 j hj with z | z
            · left; exact z
            · right; omega
        show g (walkF size hs p) = g (walkF size hs k)
        rw [this, show p + (k - p) = k by omega]
      unfold partF
      generalize hL : (m :: r).getLastD 0 = L at *
      have e1 : wsum (fun m => g (walkF size hs m)) (partL size L (m :: r)) = ((m - L - 1) % size + 1) * g (walkF size hs m) + wsum (fun m => g (walkF size hs m)) (partL size m r) := by
        show (((((L + 1) % size, (m - L - 1) % size + 1, m) :: partL size m r).map _).sum) = _
        rw [List.map_cons, List.sum_cons]; rfl
      have w1 : ∀ p : Int, 0 ≤ p → p < m + 1 → g (walkF size hs p) = g (walkF size hs m) := fun p h1 h2 => by
        have := walk_same (p := p) (d := m - p) s1 hc h1 (by omega) (by omega) (by omega) fun k hk => by
          rw [← e] at hk
          rcases List.mem_cons.mp hk with rfl | hk
          · right; omega
          · right; have := hp2.1 k hk; omega
        rw [this, show p + (m - p) = m by omega]
      have w2 : ∀ p : Int, L + 1 ≤ p → p < size → g (walkF size hs p) = g (walkF size hs m) := fun p h1 h2 => by
        rw [walk_wrap s1 hc (by omega) (by omega) (l := m) (by rw [← e]; simp) fun k hk => ?_]
        rw [← e] at hk
        have h3 := hmax k hk
        refine ⟨?_, by omega⟩
        rcases List.mem_cons.mp hk with rfl | hk
        · exact Int.le_refl _
        · exact Int.le_of_lt (hp2.1 k hk)
      have s1' := sumTo_iv (f := fun p => g (walkF size hs p)) (c := g (walkF size hs m)) (a := 0) (b := m + 1) (by omega) (by omega) w1
      have s2' := sumTo_iv (f := fun p => g (walkF size hs p)) (c := g (walkF size hs m)) (a := L + 1) (b := size) (by omega) (by omega) w2
      rw [e1, ps, mod_up (x := m - L - 1) (by omega) (by omega), s2']
      have e5 : sumTo (fun p => g (walkF size hs p)) (0 : Int).toNat = 0 := rfl
      rw [e5] at s1'
      rw [s1', show m - L - 1 + size + 1 = (m + 1 - 0) + (size - (L + 1)) by omega, Int.add_mul]
      omega
  exact key _ rfl
theorem filter_wsum {p : Int → Bool} : ∀ l : List (Int × Int × Int), ((l.filter fun t => p t.2.2).map (·.2.1)).sum = wsum (fun m => if p m = true then 1 else 0) l
  | [] => rfl
  | t :: l => by
    have ih := filter_wsum (p := p) l
    unfold wsum at ih ⊢
    rw [List.filter_cons, List.map_cons, List.sum_cons, ← ih]
    by_cases h : p t.2.2 = true
    · rw [if_pos h, List.map_cons, List.sum_cons]
      dsimp only
      rw [if_pos h, Int.mul_one]
    · rw [if_neg h]
      dsimp only
      rw [if_neg h, Int.mul_zero, Int.zero_add]
end R
set_option maxRecDepth 100000
namespace R
open PySem PySem.Spec PyProof.Rows L2 DL
abbrev N_parted : List Str := ["_law_size", "_law_edges", "_law_found", "_law_at", "_law_ahead"]
def db_parted (C : Addr) : DS :=
    (dSeq (dSet 2 (dLstC dNil))
    (dSeq (dFor (dRng1 (dCons (dCB rdLen (dCons (dVar 1) dNil)) dNil)) (gdName 3) (dSeq (dSet 4 (dOp rdIx (dVar 1) (dOp rdSub (dVar 3) (dC (.int 1)))))
    (dExp (dApp (dVar 2) (dCons (dTup (dCons (dOp rdMod (dCB rdInt (dCons (dOp rdAdd (dVar 4) (dC (.int 1))) dNil)) (dVar 0)) (dCons (dOp rdAdd (dOp rdMod (dCB rdInt (dCons (dOp rdSub (dOp rdSub (dOp rdIx (dVar 1) (dVar 3)) (dVar 4)) (dC (.int 1))) dNil)) (dVar 0)) (dC (.int 1))) (dCons (dOp rdIx (dVar 1) (dVar 3)) dNil)))) dNil)))))
    (dRetF (dVar 2))))
end R
set_option maxRecDepth 100000
set_option maxHeartbeats 1000000
namespace R
open PySem PySem.Spec PyProof.Rows L2 DL
local macro_rules | `(tactic| bv_omega) => `(tactic| first | assumption | exact mset_same)
local macro_rules | `(tactic| symm) => `(tactic| first
  | ((with_reducible show ∃ _, _ = _ ∧ _); refine ⟨_, rfl, ?_⟩)
  | ((with_reducible show _ = _ ∧ _); refine ⟨rfl, ?_⟩)
  | ((with_reducible show ∃ _ _, _ = _ ∧ _ = _ ∧ _); refine ⟨_, _, rfl, rfl, ?_⟩)
  | ((with_reducible show ∃ _ _, _ = _ ∧ _); refine ⟨_, _, rfl, ?_⟩)
  | ((with_reducible show ∃ _ _ _, _ = _ ∧ _); refine ⟨_, _, _, rfl, ?_⟩)
  | ((with_reducible show (_ ≤ _ ∧ _) ∧ _); refine ⟨by omega, ?_⟩)
  | with_reducible refine add_int ?_ | with_reducible refine sub_int ?_
  | with_reducible refine lt_int ?_ | with_reducible refine le_int ?_ | with_reducible refine gt_int ?_ | with_reducible refine ge_int ?_
  | with_reducible refine int_int ?_
  | with_reducible refine eq_int ?_ | with_reducible refine ne_int ?_
  | with_reducible refine len_tup ?_ | with_reducible refine len_lst ?_
  | ((with_reducible show rdIx (.cel _) (.int _) _ _); refine ix_cel (by bv_omega) (by rfl) ?_)
  | ((with_reducible show rdIx (.lst _) (.int _) _ _); refine ix_lst (by rfl) ?_)
  | ((with_reducible show rdIx (.tup _) (.int _) _ _); refine ix_tup (by rfl) ?_)
  | ((with_reducible show rdLen [.cel _] _ _); refine len_cel (by bv_omega) ?_)
  | ((with_reducible show rdMul (.int _) (.int _) _ _); first | refine mul_l (by decide) (by decide) ?_ | refine mul_r (by decide) (by decide) ?_ | refine mul_l (by omega) (by omega) ?_ | refine mul_r (by omega) (by omega) ?_)
  | ((with_reducible show rdDiv (.int _) (.int _) _ _); refine div_int (by first | decide | assumption | omega) (by first | decide | assumption | omega) ?_)
  | ((with_reducible show rdDivmod [.int _, .int _] _ _); refine dm_int (by first | decide | assumption | omega) (by first | decide | assumption | omega) ?_)
  | ((with_reducible show @ite _ (_ = true) _ _ _); first | refine ifYes (by first | with_reducible rfl | exact Bool.not_false | assumption) ?_ | refine ifNo (by first | with_reducible rfl | exact Bool.not_true | assumption) ?_)
  | ((with_reducible show ∃ _, _ ∧ _); refine ⟨_, celL_of (by bv_omega), ?_⟩)
  | ((with_reducible show ∃ _ _ _ _, _ ∧ _ ∧ _ ∧ _ ∧ _); refine ⟨_, _, _, _, rfl, rfl, by bv_omega, by rfl, ?_⟩)
  | ((with_reducible show (_ : Nat) ≤ sizeLine ∧ _); refine ⟨by rw [sizeLine_eq]; exact Nat.le_of_ble_eq_true rfl, ?_⟩))
local macro_rules | `(tactic| infer_instance) => `(tactic| ((repeat symm); try dsimp only))
local macro_rules | `(tactic| ac_rfl) => `(tactic| ((repeat (first | symm | ((with_reducible show rdMod (.int _) (.int _) _ _); refine mod_any (by first | decide | assumption | omega) ?_; intro _ _ _))); try dsimp only))
theorem atI_m1 {es : List Int} (h : es ≠ []) : atI (es.map D.int) (-1) = some (.int (es.getLastD 0)) := by
  have hl : 1 ≤ es.length := by cases es with | nil => exact absurd rfl h | cons a r => simp
  unfold atI
  have e : ixN (es.map D.int).length (-1) = some (es.length - 1) := by
    unfold ixN
    rw [List.length_map]
    simp
    omega
  rw [e]
  show (es.map D.int)[es.length - 1]? = _
  rw [List.getElem?_map, List.getLastD_eq_getLast?, List.getLast?_eq_getElem?, List.getElem?_eq_getElem (by omega)]
  rfl
theorem partL_get {size : Int} : ∀ {es : List Int} {b : Int} {i : Nat} {m : Int}, es[i]? = some m → (partL size b es)[i]? = some (((if i = 0 then b else es.getD (i - 1) 0) + 1) % size, (m - (if i = 0 then b else es.getD (i - 1) 0) - 1) % size + 1, m)
  | [], b, i, m, h => by simp at h
  | e :: r, b, 0, m, h => by
    have : e = m := by simpa using h
    subst this; rfl
  | e :: r, b, i + 1, m, h => by
    have h2 : r[i]? = some m := by simpa using h
    show (partL size e r)[i]? = _
    rw [partL_get h2, if_neg (Nat.succ_ne_zero i)]
    by_cases h0 : i = 0
    · subst h0; rfl
    · rw [if_neg h0]
      obtain ⟨j, rfl⟩ := Nat.exists_eq_succ_of_ne_zero h0
      rfl
theorem kp_parted (C : Addr) : Keeps N_parted 2 (sd_parted C) (db_parted C) := by
  rintro ds M q ex hl ⟨size, es, rfl, s0, hne, hlen, h⟩
  show db_parted C _ [some (.int size), some (.lst (es.map D.int)), none, none, none] M
  unfold db_parted
  have hml : (es.map D.int).length = es.length := List.length_map _
  infer_instance
  intro c hcn
  infer_instance
  rw [List.length_map, show ((es.length : Int)).toNat = es.length by omega]
  refine for_rng (fun i env M' => ∃ w3 w4 : Option D, M' = mset M c (.ls (((partF size es).take i).map triD)) ∧ env = [some (.int size), some (.lst (es.map D.int)), some (.cel c), w3, w4]) ?_ ?_ _ _ ⟨_, _, rfl, rfl⟩
  · rintro env M' ⟨w3, w4, rfl, rfl⟩
    rw [List.take_of_length_le (by rw [partF_len]; exact Nat.le_refl _)]
    refine ⟨trivial, ?_⟩
    infer_instance
    refine ⟨c, _, rfl, mset_same, ?_⟩
    rw [mdel_mset hcn]
    exact h
  · rintro i env M' hi ⟨w3, w4, rfl, rfl⟩ nx hnx
    refine ⟨trivial, ?_⟩
    obtain ⟨m, hm⟩ : ∃ m, es[i]? = some m := ⟨_, List.getElem?_eq_getElem hi⟩
    have hi1 : atI (es.map D.int) (0 + (i : Nat) - 1) = some (.int (if i = 0 then es.getLastD 0 else es.getD (i - 1) 0)) := by
      by_cases h0 : i = 0
      · subst h0
        rw [if_pos rfl]
        exact atI_m1 hne
      · rw [if_neg h0, show (0 : Int) + (i : Nat) - 1 = ((i - 1 : Nat) : Int) by omega]
        refine DL.atI_nat ?_
        rw [List.getElem?_map, List.getD_eq_getElem?_getD, List.getElem?_eq_getElem (by omega)]
        rfl
    have hi2 : atI (es.map D.int) (0 + (i : Nat)) = some (.int m) := by
      rw [show (0 : Int) + (i : Nat) = ((i : Nat) : Int) by omega]
      exact DL.atI_nat (by rw [List.getElem?_map, hm]; rfl)
    infer_instance
    refine ix_lst hi1 ?_
    infer_instance
    refine ⟨_, _, rfl, mset_same, ?_⟩
    infer_instance
    refine mod_int s0 ?_
    infer_instance
    refine ix_lst hi2 ?_
    infer_instance
    refine mod_int s0 ?_
    infer_instance
    refine ix_lst hi2 ?_
    infer_instance
    refine ⟨_, _, rfl, mset_same, Nat.lt_of_le_of_lt (show _ ≤ i by rw [List.length_map, List.length_take]; exact Nat.min_le_left _ _) (by rw [sizeLine_eq]; omega), hnx _ _ ⟨_, _, ?_, rfl⟩⟩
    have hg := partL_get (size := size) (b := es.getLastD 0) hm
    have e : ((partF size es).take (i + 1)).map triD = ((partF size es).take i).map triD ++ [triD (((if i = 0 then es.getLastD 0 else es.getD (i - 1) 0) + 1) % size, (m - (if i = 0 then es.getLastD 0 else es.getD (i - 1) 0) - 1) % size + 1, m)] := by
      rw [List.take_add_one, List.map_append]
      congr 1
      unfold partF
      rw [hg]; rfl
    rw [mset_mset, e]
    rfl
/-- small data that may be shown -/
structure Sh (n : Nat) (k : Nat) (p : PyData) : Prop where
  s : p.showable = true
  d : p.hasDict = false
  dp : p.depth ≤ k
  len : p.shown.length ≤ n
theorem Sh.ok {n k : Nat} {p : PyData} (h : Sh n k p) (hn : n ≤ 16777216) (hk : k ≤ 100) : showOk p := ⟨h.s, h.d, by have := h.dp; omega, by have := h.len; rw [sizeLine_eq]; omega⟩
theorem Sh.int {i : Int} (h0 : 0 ≤ i) (h1 : i < 10 ^ 19) : Sh 20 0 (.int i) := ⟨by simp [PyData.showable, log_ok h0 h1], by simp [PyData.hasDict], by simp [PyData.depth], by have := num_len h0 h1; rw [PyData.shown_int]; show (numS i).length ≤ 20; omega⟩
theorem Sh.str {x : Str} (h : nameB x = true) : Sh 82 0 (.str x) := ⟨by simp [PyData.showable], by simp [PyData.hasDict], by simp [PyData.depth], by rw [PyData.shown_str]; exact name_repr h⟩
theorem showAll {n k : Nat} : ∀ {l : List PyData}, (∀ p ∈ l, Sh n k p) → PyData.showableAll l = true ∧ PyData.hasDictAll l = false ∧ PyData.depthAll l ≤ k ∧ ∀ x ∈ PyData.shownAll l, x.length ≤ n
  | [], _ => ⟨by simp [PyData.showableAll], by simp [PyData.hasDictAll], by simp [PyData.depthAll], fun x hx => by simp [PyData.shownAll] at hx⟩
  | p :: l, h => by
    obtain ⟨h1, h2, h3, h4⟩ := showAll fun q hq => h q (List.mem_cons_of_mem _ hq)
    have hp := h p (by simp)
    refine ⟨by simp [PyData.showableAll, h1, hp.s], by simp [PyData.hasDictAll, h2, hp.d], ?_, fun x hx => ?_⟩
    · have := hp.dp
      simp only [PyData.depthAll]
      omega
    · rw [PyData.shownAll] at hx
      rcases List.mem_cons.mp hx with rfl | hx
      · exact hp.len
      · exact h4 x hx
theorem Sh.tuple {n k m : Nat} {l : List PyData} (h : ∀ p ∈ l, Sh n k p) (hm : l.length ≤ m) : Sh (3 + (n + 2) * m) (k + 1) (.tuple l) := by
  obtain ⟨h1, h2, h3, h4⟩ := showAll h
  refine ⟨by simp [PyData.showable, h1], by simp [PyData.hasDict, h2], by simp only [PyData.depth]; omega, ?_⟩
  have e : (PyData.tuple l).shown = tupleText (PyData.shownAll l) := by simp only [PyData.shown]
  rw [e]
  have a := tup_le (PyData.shownAll l)
  have b := piledN h4
  rw [shownAll_len] at b
  have c : (n + 2) * l.length ≤ (n + 2) * m := Nat.mul_le_mul_left _ hm
  omega
theorem Sh.list {n k m : Nat} {l : List PyData} (h : ∀ p ∈ l, Sh n k p) (hm : l.length ≤ m) : Sh (3 + (n + 2) * m) (k + 1) (.list l) := by
  obtain ⟨h1, h2, h3, h4⟩ := showAll h
  refine ⟨by simp [PyData.showable, h1], by simp [PyData.hasDict, h2], by simp only [PyData.depth]; omega, ?_⟩
  have e : (PyData.list l).shown = ("[" : Str) ++ Str.join ", " (PyData.shownAll l) ++ "]" := by
    simp only [PyData.shown]
    exact listText_eq_join _
  rw [e]
  have a := lst_le (PyData.shownAll l)
  have b := piledN h4
  rw [shownAll_len] at b
  have c : (n + 2) * l.length ≤ (n + 2) * m := Nat.mul_le_mul_left _ hm
  omega
theorem Sh.mono {n n' k k' : Nat} {p : PyData} (h : Sh n k p) (hn : n ≤ n') (hk : k ≤ k') : Sh n' k' p := ⟨h.s, h.d, by have := h.dp; omega, by have := h.len; omega⟩
/-- what is shown alike is alike -/
theorem ne_same {x : Str} {M : Mem} {q : QD} (w : q (.bl false) M) : rdNe (.str x) (.str x) M q := ne_strA (by rw [decide_eq_true rfl]; exact w)
end R
set_option maxRecDepth 100000
set_option maxHeartbeats 4000000
namespace ZL
open PySem PySem.Spec PyProof.Rows PySem.W L2
/-- where a zip of two lists stands that is drawn whole into a list -/
structure At (z TI TO i1 i2 l1 l2 : Addr) (xs ys : Array Value) (n0 : Nat) (i : Nat) (h : Heap) : Prop where
  ti : IsPair h TI (.ref i1) (.ref i2)
  a : h.IsListIter i1 l1 i
  b : h.IsListIter i2 l2 i
  l : h.IsList l1 xs
  r : h.IsList l2 ys
  zz : (IsZip h z TI TO .none ∧ ∃ p q, IsPair h TO p q) ∨ ∃ T f o, IsZipHeld h z TI TO T f ∧ h.get? T = some o ∧ n0 ≤ T
theorem ne_lo {a T n0 : Nat} (h : a < n0) (h' : n0 ≤ T) : T ≠ a := Nat.ne_of_gt (Nat.lt_of_lt_of_le h h')
section
variable {prog : Program} {w : World} {A : Around} {R : Result → Shared → Prop} {z TI TO i1 i2 l1 l2 S : Addr} {xs ys : Array Value} {n0 : Nat} {res : Value}
theorem At.keep {i : Nat} {h h' : Heap} (st : At z TI TO i1 i2 l1 l2 xs ys n0 i h) (k : ∀ c o, c ≠ S → h.get? c = some o → h'.get? c = some o) (hz : z ≠ S) (hTI : TI ≠ S) (hTO : TO ≠ S) (h1 : i1 ≠ S) (h2 : i2 ≠ S) (hl1 : l1 ≠ S) (hl2 : l2 ≠ S) (hS : S < n0) : At z TI TO i1 i2 l1 l2 xs ys n0 i h' where
  ti := k _ _ hTI st.ti
  a := st.a.at fun o e => k _ o h1 e
  b := st.b.at fun o e => k _ o h2 e
  l := st.l.at fun o e => k _ o hl1 e
  r := st.r.at fun o e => k _ o hl2 e
  zz := by
    rcases st.zz with ⟨e, p, q, e2⟩ | ⟨T, f, o, e, e2, hT⟩
    · exact .inl ⟨k _ _ hz e, p, q, k _ _ hTO e2⟩
    · exact .inr ⟨T, f, o, k _ _ hz e, k _ _ (ne_lo hS hT) e2, hT⟩
end
end ZL
set_option maxRecDepth 100000
set_option maxHeartbeats 4000000
namespace ZL
open PySem PySem.Spec PyProof.Rows L2
/-- pairs told of at their places -/
def putP : Hp → List Addr → List (V × V) → Hp
  | H, a :: as, p :: ps => putP (upd H a (.tup [p.1, p.2])) as ps
  | H, [], _ => H
  | H, _ :: _, [] => H
theorem putP_off {b : Addr} : ∀ (as : List Addr) (ps : List (V × V)) (H : Hp), b ∉ as → putP H as ps b = H b
  | [], _, _, _ => rfl
  | _ :: _, [], _, _ => rfl
  | a :: as, p :: ps, H, h => by
    rw [List.mem_cons, not_or] at h
    show putP (upd H a (.tup [p.1, p.2])) as ps b = H b
    rw [putP_off as ps _ h.2, upd_ne h.1]
theorem putP_at : ∀ (as : List Addr) (ps : List (V × V)) (H : Hp), as.Nodup → ∀ (j : Nat) (a : Addr) (p : V × V), as[j]? = some a → ps[j]? = some p → putP H as ps a = some (.tup [p.1, p.2])
  | [], _, _, _, j, a, p, h, _ => by simp at h
  | _ :: _, [], _, _, j, a, p, _, h => by simp at h
  | b :: as, q :: ps, H, hn, j, a, p, h1, h2 => by
    rw [List.nodup_cons] at hn
    show putP (upd H b (.tup [q.1, q.2])) as ps a = _
    cases j with
    | zero =>
      simp at h1 h2
      subst h1 h2
      rw [putP_off as ps _ hn.1, upd_same]
    | succ j => exact putP_at as ps _ hn.2 j a p (by simpa using h1) (by simpa using h2)
theorem refs_vals : ∀ as : List Addr, Vals (as.map V.ref) (as.map Value.ref)
  | [] => .nil
  | _ :: as => .cons rfl (refs_vals as)
/-- what stands there then, over the abstract heap -/
structure Pairs (H H' : Hp) (S : Addr) (as : List Addr) (ps : List (V × V)) : Prop where
  old : ∀ b o, H b = some o → H' b = some o
  eq : H' = putP (upd H S (.lst (as.map V.ref))) as ps
  len : as.length = ps.length
  nd : as.Nodup
  newS : H S = none
  new : ∀ a ∈ as, H a = none
  off : S ∉ as
section
variable {X : Cx} {pins : List (Addr × Obj)} {σ : L2.St} {H : Hp} {s : Shared}
theorem laid {h' : Heap} {tk : Nat} {as : List Addr} {ps : List (V × V)} {c : Nat} {S : Addr} (I : Inv X pins σ H s) (hz : ps.length ≤ sizeLine) (hS0 : s.heap.objs.size ≤ S) (ha : ∀ a ∈ as, s.heap.objs.size ≤ a) (hn : as.Nodup) (hSn : S ∉ as) (hl : as.length = ps.length) (hk : ∀ b o, s.heap.get? b = some o → h'.get? b = some o)
    (hS : h'.get? S = some { cls := .type "list", dict := none, data := .seq (as.map Value.ref).toArray c, slots := #[] }) (hp : ∀ (j : Nat) (a : Addr) (p : V × V), as[j]? = some a → ps[j]? = some p → ∃ x y, RelV p.1 x ∧ RelV p.2 y ∧ h'.get? a = some { cls := .type "tuple", data := .seq #[x, y] }) :
    ∃ H', Pairs H H' S as ps ∧ Inv X pins σ H' { s with heap := h', toks := tk } := by
  have newS : H S = none := I.hok.fresh hS0
  have new : ∀ a ∈ as, H a = none := fun a hm => I.hok.fresh (ha a hm)
  have off : ∀ b, b ∉ as → b ≠ S → putP (upd H S (.lst (as.map V.ref))) as ps b = H b := fun b h1 h2 => by rw [putP_off as ps _ h1, upd_ne h2]
  have eS : putP (upd H S (.lst (as.map V.ref))) as ps S = some (.lst (as.map V.ref)) := by rw [putP_off as ps _ hSn, upd_same]
  have kp : ∀ b u, H b = some u → putP (upd H S (.lst (as.map V.ref))) as ps b = some u := fun b u e => by
    rw [off b (fun z => by rw [new b z] at e; cases e) (fun z => by rw [z, newS] at e; cases e)]; exact e
  refine ⟨_, ⟨kp, rfl, hl, hn, newS, new, hSn⟩, ?_⟩
  refine I.call' (ch := []) rfl ⟨fun b o q _ _ _ => hk b o q, fun b o q _ _ _ => ⟨o.slots, hk b o q⟩, fun b o q n _ => ?_, fun b o q _ => ⟨o, hk b o q⟩, fun b xs q => kp b _ q, fun b o u q => kp b _ q, fun b ps q => ⟨#[], by rw [kp b _ q]; simp⟩⟩ (fun b u q => ?_) I.bare fun b z => by simp at z
  · have hlt := Heap.lt_size q
    rw [off b (fun z => absurd hlt (Nat.not_lt.mpr (ha b z))) (fun z => by subst z; exact absurd hlt (Nat.not_lt.mpr hS0))]
    exact n
  · by_cases hb : b ∈ as
    · obtain ⟨j, hj⟩ := List.getElem?_of_mem hb
      have hj2 := (List.getElem?_eq_some_iff.mp hj).1
      have hpj := List.getElem?_eq_getElem (l := ps) (i := j) (by omega)
      have e := putP_at as ps (upd H S (.lst (as.map V.ref))) hn j b _ hj hpj
      have e2 : some u = some (.tup [(ps[j]'(by omega)).1, (ps[j]'(by omega)).2]) := by rw [← q]; exact e
      cases e2
      obtain ⟨x, y, rx, ry, f⟩ := hp j b _ hj hpj
      exact ⟨by show 2 ≤ sizeLine; decide, [x, y], .cons rx (.cons ry .nil), ⟨_, f, rfl, _, rfl⟩⟩
    · by_cases hb2 : b = S
      · rw [hb2] at q ⊢
        have e2 : some u = some (.lst (as.map V.ref)) := by rw [← q]; exact eS
        cases e2
        exact ⟨by rw [List.length_map]; omega, as.map Value.ref, c, refs_vals as, hS⟩
      · have e2 : H b = some u := by rw [← off b hb hb2]; exact q
        exact (I.hok b u e2).stay (fun d v _ y => hk d v y) (fun d y => kp d _ y) fun d xs y => kp d _ y
end
end ZL
namespace DL
open PySem PySem.Spec PyProof.Rows L2 ZL
end DL
set_option maxRecDepth 100000
set_option maxHeartbeats 4000000
namespace DL
open PySem PySem.Spec PyProof.Rows L2
def kD : Key → D
  | .inl i => .int i
  | .inr x => .str x
theorem kD_dn {K : PySem.W.Frag} {H : Hp} (k : Key) : Dn K H (kV k) (kD k) := by
  cases k with
  | inl i => exact .int i
  | inr x => exact .str x
theorem SD.lock {K : PySem.W.Frag} {H0 H : Hp} {M : Mem} (S : SD K H0 H M) {c : Addr} {ds : List (Key × D)} (h : M c = some (.dc ds)) : ∃ rs, H c = some (.dK rs) ∧ ∀ o, SD K H0 (upd H c (.frz o (.dK rs))) (mset M c (.fd o rs ds)) := by
  obtain ⟨n0, rs, hr, kv⟩ := S.dict h
  exact ⟨rs, hr, fun o => S.put n0 fun _ e => ⟨e, kv⟩⟩
theorem SD.unlock {K : PySem.W.Frag} {H0 H : Hp} {M : Mem} (S : SD K H0 H M) {c : Addr} {o : Obj} {rs : List (Key × V)} {ds : List (Key × D)} (h : M c = some (.fd o rs ds)) : H c = some (.frz o (.dK rs)) ∧ SD K H0 (upd H c (.dK rs)) (mset M c (.dc ds)) := by
  obtain ⟨n0, a, b⟩ := S.any c _ h
  exact ⟨a, S.put n0 fun _ e => ⟨rs, e, b⟩⟩
@[reducible] def dLockE (i : Nat) (de : DE) : DE := fun env M q E => ∃ c ds, env[i]? = some (some (.cel c)) ∧ M c = some (.dc ds) ∧ ∀ o rs, de env (mset M c (.fd o rs ds)) (fun v M' => M' c = some (.fd o rs ds) ∧ q v (mset M' c (.dc ds))) noX
section
variable {X : Cx} {W : WX} {tg : Expr}
theorem pd_lock {e : Expr} {de : DE} (i : Nat) (h : PD X W e de) : PD X W e (dLockE i de) :=
  peImp (pe_lock h) fun σ H Q ⟨env, M, q, E, H0, so, S, ⟨c, ds, hi, hc, w⟩, k, kx⟩ => by
    obtain ⟨rs, hr, hl⟩ := S.lock hc
    refine ⟨c, _, hr, trivial, fun o => ⟨env, _, _, noX, H0, so, hl o, w o rs, fun v dv H1 H' M' e S' r ⟨hm, w⟩ => ?_, fun cls dd ns ds' H1' H' M' e' S' xx w => w.elim⟩⟩
    obtain ⟨h1, h2⟩ := S'.unlock hm
    exact ⟨h1, k v dv H1 _ _ e h2 r w⟩
theorem itk_ok {K : PySem.W.Frag} {H0 : Hp} {c : Addr} {o : Obj} {rs : List (Key × V)} {ds : List (Key × D)} : ItOk K H0 (Itk c o rs) (ds.map fun kv => kD kv.1) (fun M => M c = some (.fd o rs ds)) where
  go := fun H0' H M i y e S ok hi => by
    obtain ⟨n0, a, b⟩ := S.any c _ ok
    rw [List.getElem?_map] at hi
    obtain ⟨kv, hk, rfl⟩ := omap hi
    have hlt := (List.getElem?_eq_some_iff.mp hk).1
    have hl := b.length
    have key : ∀ {r : List (Key × V)} {s : List (Key × D)}, KvL K H0' r s → ∀ (j : Nat) (k : Key) (v : V) (kv : Key × D), r[j]? = some (k, v) → s[j]? = some kv → k = kv.1 := by
      intro r s hb
      induction hb with
      | nil => intro j k v kv h; simp at h
      | cons _ _ ih =>
        intro j k v kv h1 h2
        cases j with
        | zero => simp at h1 h2; rw [← h2, ← h1.1]
        | succ j => exact ih j k v kv (by simpa using h1) (by simpa using h2)
    refine ⟨⟨a, by omega⟩, fun x H' ⟨e1, k, v, e2, e3⟩ => ?_⟩
    subst e1 e3
    exact ⟨H0', Ext.refl _, S, by rw [key b i k v kv e2 hk]; exact kD_dn _⟩
  stop := fun H0' H M i e S ok hi => by
    obtain ⟨n0, a, b⟩ := S.any c _ ok
    rw [List.length_map] at hi
    exact ⟨a, by rw [b.length]; exact hi⟩
/-- for k in d, d locked -/
@[reducible] def dIterK (de : DE) : DI := fun env M q E => de env M (fun d M1 => ∃ c o rs ds, d = .cel c ∧ M1 c = some (.fd o rs ds) ∧ q (ds.map fun kv => kD kv.1) (fun M' => M' c = some (.fd o rs ds)) M1) E
theorem id_keys {e : Expr} {de : DE} (h : PD X W e de) : ID X W tg e (dIterK de) := piImp (pi_keys h) fun σ H R ⟨env, M, q, E, H0, so, S, h, k, kx⟩ =>
  goE so S h kx fun x dx H1 H' M1 e1 so1 S1 rx ⟨c, o, rs, ds, ed, hm, w⟩ kx1 => by
    subst ed
    cases rx
    obtain ⟨n0, a, b⟩ := S1.any c _ hm
    exact ⟨c, o, rfl, .inl ⟨rs, a, k _ _ _ H1 H' M1 e1 S1 itk_ok w⟩⟩
/-- d[k], d locked -/
@[reducible] def dDGetF (dd dk : DE) : DE := fun env M q E => dd env M (fun o M1 => dk env M1 (fun y M2 => ∃ c ob rs s k v, o = .cel c ∧ M2 c = some (.fd ob rs s) ∧ keyD y = some k ∧ getK s k = some v ∧ q v M2) E) E
theorem pd_dgetF {o i : Expr} {dd dk : DE} {pos : Pos} (hu : X.A.units + 1 < cLine) (ho : PD X W o dd) (hi : PD X W i dk) (hs : NoSl i) : PD X W (.Subscript o i pos) (dDGetF dd dk) := peImp (pe_dget hu ho hi hs) fun σ H Q ⟨env, M, q, E, H0, so, S, h, k, kx⟩ =>
  goE so S h kx fun x dx H1 H' M1 e1 so1 S1 rx h1 kx1 => goE so1 S1 h1 kx1 fun y dy H2 H'' M2 e2 so2 S2 ry ⟨c, ob, rs, s, kk, d, ec, em, ek, eg, w⟩ kx2 => by
    subst ec
    cases rx
    have z := keyD_dn ry ek
    subst z
    obtain ⟨n0, hr, kv⟩ := S2.any c _ em
    rcases kv.get (k := kk) with ⟨g1, _⟩ | ⟨v, d', g1, g2, rv⟩
    · rw [eg] at g1; cases g1
    · rw [eg] at g1; cases g1
      exact ⟨c, v, rfl, by rw [← g2]; exact .inl ⟨rs, kk, .inr ⟨ob, hr⟩, rfl, rfl⟩, k _ _ H2 _ _ (e1.trans e2) S2 rv w⟩
/-- sorted(d), text keys -/
def rdSortD : RDL := fun ds M q => ∃ (c : Addr) (s : List (Key × D)) (ks : List Str), ds = [.cel c] ∧ M c = some (.dc s) ∧ s.map (·.1) = ks.map Sum.inr ∧ ks.length < 64 ∧ ∀ ys : List Str, ys.Perm ks → sortedS ys = true → q (.lst (ys.map D.str)) M
theorem KvL.keys {K : PySem.W.Frag} {H : Hp} : ∀ {r : List (Key × V)} {s : List (Key × D)}, KvL K H r s → r.map (·.1) = s.map (·.1)
  | _, _, .nil => rfl
  | _, _, .cons _ b => by rw [List.map_cons, List.map_cons, KvL.keys b]
theorem cd_sortD (hc : X.calm = true) : CallD X (.builtin "sorted") rdSortD := ⟨_, call_sortedD hc, fun H0 H M xs ds q Q S r w k => by
  obtain ⟨c, s, ks, rfl, hm, hk, hl, w⟩ := w
  obtain ⟨v, rfl, rv⟩ := dnl1 r
  cases rv
  obtain ⟨_, rs, hr, kv⟩ := S.dict hm
  exact ⟨c, rs, ks, rfl, .inl hr, by rw [kv.keys]; exact hk, hl, fun ys p h1 h2 hp => k.newL S (dn_strs ys) (w ys h1 h2) p hp⟩⟩
end
end DL
set_option maxRecDepth 100000
set_option maxHeartbeats 4000000
namespace DL
open PySem PySem.Spec PyProof.Rows L2
end DL
set_option maxRecDepth 100000
set_option maxHeartbeats 4000000
namespace DL
open PySem PySem.Spec PyProof.Rows L2
end DL
set_option maxRecDepth 100000
set_option maxHeartbeats 4000000
namespace SK
open PySem PySem.Spec PyProof.Rows L2
section
variable {P : Program} {w : World} {K : Type} [DecidableEq K] (knd : KeyKind P w K) (key : Value → K)
abbrev keysOf (l : List (Int × Value)) : List K := l.map fun e => key e.2
structure Body (h : Heap) (a : Addr) (o : Obj) (es : Array (Int × Value)) (ep : Nat) (t : SetTable) : Prop where
  at_ : h.get? a = some o
  exact_ : o.ExactSet
  data : o.data = .set es ep t
  el : ElemsOf knd es.toList
  nd : (keysOf key es.toList).Nodup
  few : es.size < scanBound
  fits : t.fits es.size = true
  ris : Ris t.place.toList
  led : w.params.followText "set-order" = true ∨ t.led = true
/-- the set at a: its members ks, each once -/
def SetK (h : Heap) (a : Addr) (ks : List K) : Prop := ∃ o es ep t, Body knd key h a o es ep t ∧ (keysOf key es.toList).Perm ks
end
section
variable {P : Program} {w : World} {K : Type} [DecidableEq K] {knd : KeyKind P w K} {key : Value → K} {h h' : Heap} {a : Addr} {ks : List K}
theorem SetK.keep (R : SetK knd key h a ks) (k : ∀ o, h.get? a = some o → h'.get? a = some o) : SetK knd key h' a ks := by
  obtain ⟨o, es, ep, t, B, p⟩ := R
  exact ⟨o, es, ep, t, { B with at_ := k o B.at_ }, p⟩
theorem SetK.len (R : SetK knd key h a ks) : ks.length < scanBound := by
  obtain ⟨o, es, ep, t, B, p⟩ := R
  rw [← p.length_eq, List.length_map, Array.length_toList]
  exact B.few
end
end SK
namespace DL
open PySem PySem.Spec PyProof.Rows L2
end DL
set_option maxRecDepth 100000
set_option maxHeartbeats 4000000
namespace DL
open PySem PySem.Spec PyProof.Rows L2
end DL
set_option maxRecDepth 100000
set_option maxHeartbeats 4000000
namespace DL
open PySem PySem.Spec PyProof.Rows L2
section
variable {X : Cx} {W : WX}
theorem DnL.split {K : PySem.W.Frag} {H : Hp} : ∀ {ds : List D} {d : D} {vs : List V}, DnL K H vs (ds ++ [d]) → ∃ us u, vs = us ++ [u] ∧ DnL K H us ds ∧ Dn K H u d
  | [], d, _, .cons h .nil => ⟨[], _, rfl, .nil, h⟩
  | x :: ds, d, _, .cons h r => by
    obtain ⟨us, u, rfl, a, b⟩ := DnL.split r
    exact ⟨_ :: us, u, rfl, .cons h a, b⟩
end
end DL
set_option maxRecDepth 100000
set_option maxHeartbeats 1000000
namespace R
open PySem PySem.Spec PyProof.Rows L2 DL
local macro_rules | `(tactic| bv_omega) => `(tactic| first | assumption | exact mset_same)
local macro_rules | `(tactic| symm) => `(tactic| first
  | ((with_reducible show ∃ _, _ = _ ∧ _); refine ⟨_, rfl, ?_⟩)
  | ((with_reducible show _ = _ ∧ _); refine ⟨rfl, ?_⟩)
  | ((with_reducible show ∃ _ _, _ = _ ∧ _ = _ ∧ _); refine ⟨_, _, rfl, rfl, ?_⟩)
  | ((with_reducible show ∃ _ _, _ = _ ∧ _); refine ⟨_, _, rfl, ?_⟩)
  | ((with_reducible show ∃ _ _ _, _ = _ ∧ _); refine ⟨_, _, _, rfl, ?_⟩)
  | ((with_reducible show (_ ≤ _ ∧ _) ∧ _); refine ⟨by omega, ?_⟩)
  | with_reducible refine add_int ?_ | with_reducible refine sub_int ?_
  | with_reducible refine lt_int ?_ | with_reducible refine le_int ?_ | with_reducible refine gt_int ?_ | with_reducible refine ge_int ?_
  | with_reducible refine int_int ?_
  | with_reducible refine eq_int ?_ | with_reducible refine ne_int ?_
  | with_reducible refine len_tup ?_ | with_reducible refine len_lst ?_
  | ((with_reducible show rdIx (.cel _) (.int _) _ _); refine ix_cel (by bv_omega) (by rfl) ?_)
  | ((with_reducible show rdIx (.lst _) (.int _) _ _); refine ix_lst (by rfl) ?_)
  | ((with_reducible show rdIx (.tup _) (.int _) _ _); refine ix_tup (by rfl) ?_)
  | ((with_reducible show rdLen [.cel _] _ _); refine len_cel (by bv_omega) ?_)
  | ((with_reducible show rdMul (.int _) (.int _) _ _); first | refine mul_l (by decide) (by decide) ?_ | refine mul_r (by decide) (by decide) ?_ | refine mul_l (by omega) (by omega) ?_ | refine mul_r (by omega) (by omega) ?_)
  | ((with_reducible show rdDiv (.int _) (.int _) _ _); refine div_int (by first | decide | assumption | omega) (by first | decide | assumption | omega) ?_)
  | ((with_reducible show rdDivmod [.int _, .int _] _ _); refine dm_int (by first | decide | assumption | omega) (by first | decide | assumption | omega) ?_)
  | ((with_reducible show @ite _ (_ = true) _ _ _); first | refine ifYes (by first | with_reducible rfl | exact Bool.not_false | assumption) ?_ | refine ifNo (by first | with_reducible rfl | exact Bool.not_true | assumption) ?_)
  | ((with_reducible show ∃ _, _ ∧ _); refine ⟨_, celL_of (by bv_omega), ?_⟩)
  | ((with_reducible show ∃ _ _ _ _, _ ∧ _ ∧ _ ∧ _ ∧ _); refine ⟨_, _, _, _, rfl, rfl, by bv_omega, by rfl, ?_⟩)
  | ((with_reducible show (_ : Nat) ≤ sizeLine ∧ _); refine ⟨by rw [sizeLine_eq]; exact Nat.le_of_ble_eq_true rfl, ?_⟩))
local macro_rules | `(tactic| infer_instance) => `(tactic| ((repeat symm); try dsimp only))
local macro_rules | `(tactic| ac_rfl) => `(tactic| ((repeat (first | symm | ((with_reducible show rdMod (.int _) (.int _) _ _); refine mod_any (by first | decide | assumption | omega) ?_; intro _ _ _))); try dsimp only))
end R
set_option maxRecDepth 100000
namespace R
open PySem PySem.Spec PyProof.Rows L2 DL
end R
set_option maxRecDepth 100000
set_option maxHeartbeats 1000000
namespace R
open PySem PySem.Spec PyProof.Rows L2 DL
local macro_rules | `(tactic| bv_omega) => `(tactic| first | assumption | exact mset_same)
local macro_rules | `(tactic| symm) => `(tactic| first
  | ((with_reducible show ∃ _, _ = _ ∧ _); refine ⟨_, rfl, ?_⟩)
  | ((with_reducible show _ = _ ∧ _); refine ⟨rfl, ?_⟩)
  | ((with_reducible show ∃ _ _, _ = _ ∧ _ = _ ∧ _); refine ⟨_, _, rfl, rfl, ?_⟩)
  | ((with_reducible show ∃ _ _, _ = _ ∧ _); refine ⟨_, _, rfl, ?_⟩)
  | ((with_reducible show ∃ _ _ _, _ = _ ∧ _); refine ⟨_, _, _, rfl, ?_⟩)
  | ((with_reducible show (_ ≤ _ ∧ _) ∧ _); refine ⟨by omega, ?_⟩)
  | with_reducible refine add_int ?_ | with_reducible refine sub_int ?_
  | with_reducible refine lt_int ?_ | with_reducible refine le_int ?_ | with_reducible refine gt_int ?_ | with_reducible refine ge_int ?_
  | with_reducible refine int_int ?_
  | with_reducible refine eq_int ?_ | with_reducible refine ne_int ?_
  | with_reducible refine len_tup ?_ | with_reducible refine len_lst ?_
  | ((with_reducible show rdIx (.cel _) (.int _) _ _); refine ix_cel (by bv_omega) (by rfl) ?_)
  | ((with_reducible show rdIx (.lst _) (.int _) _ _); refine ix_lst (by rfl) ?_)
  | ((with_reducible show rdIx (.tup _) (.int _) _ _); refine ix_tup (by rfl) ?_)
  | ((with_reducible show rdLen [.cel _] _ _); refine len_cel (by bv_omega) ?_)
  | ((with_reducible show rdMul (.int _) (.int _) _ _); first | refine mul_l (by decide) (by decide) ?_ | refine mul_r (by decide) (by decide) ?_ | refine mul_l (by omega) (by omega) ?_ | refine mul_r (by omega) (by omega) ?_)
  | ((with_reducible show rdDiv (.int _) (.int _) _ _); refine div_int (by first | decide | assumption | omega) (by first | decide | assumption | omega) ?_)
  | ((with_reducible show rdDivmod [.int _, .int _] _ _); refine dm_int (by first | decide | assumption | omega) (by first | decide | assumption | omega) ?_)
  | ((with_reducible show @ite _ (_ = true) _ _ _); first | refine ifYes (by first | with_reducible rfl | exact Bool.not_false | assumption) ?_ | refine ifNo (by first | with_reducible rfl | exact Bool.not_true | assumption) ?_)
  | ((with_reducible show ∃ _, _ ∧ _); refine ⟨_, celL_of (by bv_omega), ?_⟩)
  | ((with_reducible show ∃ _ _ _ _, _ ∧ _ ∧ _ ∧ _ ∧ _); refine ⟨_, _, _, _, rfl, rfl, by bv_omega, by rfl, ?_⟩)
  | ((with_reducible show (_ : Nat) ≤ sizeLine ∧ _); refine ⟨by rw [sizeLine_eq]; exact Nat.le_of_ble_eq_true rfl, ?_⟩))
local macro_rules | `(tactic| infer_instance) => `(tactic| ((repeat symm); try dsimp only))
local macro_rules | `(tactic| ac_rfl) => `(tactic| ((repeat (first | symm | ((with_reducible show rdMod (.int _) (.int _) _ _); refine mod_any (by first | decide | assumption | omega) ?_; intro _ _ _))); try dsimp only))
end R
set_option maxRecDepth 100000
set_option maxHeartbeats 1000000
namespace R
open PySem PySem.Spec PyProof.Rows L2 DL
local macro_rules | `(tactic| bv_omega) => `(tactic| first | assumption | exact mset_same)
local macro_rules | `(tactic| symm) => `(tactic| first
  | ((with_reducible show ∃ _, _ = _ ∧ _); refine ⟨_, rfl, ?_⟩)
  | ((with_reducible show _ = _ ∧ _); refine ⟨rfl, ?_⟩)
  | ((with_reducible show ∃ _ _, _ = _ ∧ _ = _ ∧ _); refine ⟨_, _, rfl, rfl, ?_⟩)
  | ((with_reducible show ∃ _ _, _ = _ ∧ _); refine ⟨_, _, rfl, ?_⟩)
  | ((with_reducible show ∃ _ _ _, _ = _ ∧ _); refine ⟨_, _, _, rfl, ?_⟩)
  | ((with_reducible show (_ ≤ _ ∧ _) ∧ _); refine ⟨by omega, ?_⟩)
  | with_reducible refine add_int ?_ | with_reducible refine sub_int ?_
  | with_reducible refine lt_int ?_ | with_reducible refine le_int ?_ | with_reducible refine gt_int ?_ | with_reducible refine ge_int ?_
  | with_reducible refine int_int ?_
  | with_reducible refine eq_int ?_ | with_reducible refine ne_int ?_
  | with_reducible refine len_tup ?_ | with_reducible refine len_lst ?_
  | ((with_reducible show rdIx (.cel _) (.int _) _ _); refine ix_cel (by bv_omega) (by rfl) ?_)
  | ((with_reducible show rdIx (.lst _) (.int _) _ _); refine ix_lst (by rfl) ?_)
  | ((with_reducible show rdIx (.tup _) (.int _) _ _); refine ix_tup (by rfl) ?_)
  | ((with_reducible show rdLen [.cel _] _ _); refine len_cel (by bv_omega) ?_)
  | ((with_reducible show rdMul (.int _) (.int _) _ _); first | refine mul_l (by decide) (by decide) ?_ | refine mul_r (by decide) (by decide) ?_ | refine mul_l (by omega) (by omega) ?_ | refine mul_r (by omega) (by omega) ?_)
  | ((with_reducible show rdDiv (.int _) (.int _) _ _); refine div_int (by first | decide | assumption | omega) (by first | decide | assumption | omega) ?_)
  | ((with_reducible show rdDivmod [.int _, .int _] _ _); refine dm_int (by first | decide | assumption | omega) (by first | decide | assumption | omega) ?_)
  | ((with_reducible show @ite _ (_ = true) _ _ _); first | refine ifYes (by first | with_reducible rfl | exact Bool.not_false | assumption) ?_ | refine ifNo (by first | with_reducible rfl | exact Bool.not_true | assumption) ?_)
  | ((with_reducible show ∃ _, _ ∧ _); refine ⟨_, celL_of (by bv_omega), ?_⟩)
  | ((with_reducible show ∃ _ _ _ _, _ ∧ _ ∧ _ ∧ _ ∧ _); refine ⟨_, _, _, _, rfl, rfl, by bv_omega, by rfl, ?_⟩)
  | ((with_reducible show (_ : Nat) ≤ sizeLine ∧ _); refine ⟨by rw [sizeLine_eq]; exact Nat.le_of_ble_eq_true rfl, ?_⟩))
local macro_rules | `(tactic| infer_instance) => `(tactic| ((repeat symm); try dsimp only))
local macro_rules | `(tactic| ac_rfl) => `(tactic| ((repeat (first | symm | ((with_reducible show rdMod (.int _) (.int _) _ _); refine mod_any (by first | decide | assumption | omega) ?_; intro _ _ _))); try dsimp only))
def Lt (x : Str) : Prop := ∀ c ∈ x.cps.toList, c < 1114112
theorem Lt.ok {x : Str} (h : Lt x) : PyData.strOk x = true := strOk_nat (List.all_eq_true.mpr fun c hc => decide_eq_true (h c hc))
theorem Lt.app {a b : Str} (h : Lt a) (h' : Lt b) : Lt (a ++ b) := fun c hc => by
  rcases mem_cps_append.mp hc with hc | hc
  · exact h c hc
  · exact h' c hc
end R
set_option maxRecDepth 100000
set_option maxHeartbeats 1000000
namespace R
open PySem PySem.Spec PyProof.Rows L2 DL
local macro_rules | `(tactic| bv_omega) => `(tactic| first | assumption | exact mset_same)
local macro_rules | `(tactic| symm) => `(tactic| first
  | ((with_reducible show ∃ _, _ = _ ∧ _); refine ⟨_, rfl, ?_⟩)
  | ((with_reducible show _ = _ ∧ _); refine ⟨rfl, ?_⟩)
  | ((with_reducible show ∃ _ _, _ = _ ∧ _ = _ ∧ _); refine ⟨_, _, rfl, rfl, ?_⟩)
  | ((with_reducible show ∃ _ _, _ = _ ∧ _); refine ⟨_, _, rfl, ?_⟩)
  | ((with_reducible show ∃ _ _ _, _ = _ ∧ _); refine ⟨_, _, _, rfl, ?_⟩)
  | ((with_reducible show (_ ≤ _ ∧ _) ∧ _); refine ⟨by omega, ?_⟩)
  | with_reducible refine add_int ?_ | with_reducible refine sub_int ?_
  | with_reducible refine lt_int ?_ | with_reducible refine le_int ?_ | with_reducible refine gt_int ?_ | with_reducible refine ge_int ?_
  | with_reducible refine int_int ?_
  | with_reducible refine eq_int ?_ | with_reducible refine ne_int ?_
  | with_reducible refine len_tup ?_ | with_reducible refine len_lst ?_
  | ((with_reducible show rdIx (.cel _) (.int _) _ _); refine ix_cel (by bv_omega) (by rfl) ?_)
  | ((with_reducible show rdIx (.lst _) (.int _) _ _); refine ix_lst (by rfl) ?_)
  | ((with_reducible show rdIx (.tup _) (.int _) _ _); refine ix_tup (by rfl) ?_)
  | ((with_reducible show rdLen [.cel _] _ _); refine len_cel (by bv_omega) ?_)
  | ((with_reducible show rdMul (.int _) (.int _) _ _); first | refine mul_l (by decide) (by decide) ?_ | refine mul_r (by decide) (by decide) ?_ | refine mul_l (by omega) (by omega) ?_ | refine mul_r (by omega) (by omega) ?_)
  | ((with_reducible show rdDiv (.int _) (.int _) _ _); refine div_int (by first | decide | assumption | omega) (by first | decide | assumption | omega) ?_)
  | ((with_reducible show rdDivmod [.int _, .int _] _ _); refine dm_int (by first | decide | assumption | omega) (by first | decide | assumption | omega) ?_)
  | ((with_reducible show @ite _ (_ = true) _ _ _); first | refine ifYes (by first | with_reducible rfl | exact Bool.not_false | assumption) ?_ | refine ifNo (by first | with_reducible rfl | exact Bool.not_true | assumption) ?_)
  | ((with_reducible show ∃ _, _ ∧ _); refine ⟨_, celL_of (by bv_omega), ?_⟩)
  | ((with_reducible show ∃ _ _ _ _, _ ∧ _ ∧ _ ∧ _ ∧ _); refine ⟨_, _, _, _, rfl, rfl, by bv_omega, by rfl, ?_⟩)
  | ((with_reducible show (_ : Nat) ≤ sizeLine ∧ _); refine ⟨by rw [sizeLine_eq]; exact Nat.le_of_ble_eq_true rfl, ?_⟩))
local macro_rules | `(tactic| infer_instance) => `(tactic| ((repeat symm); try dsimp only))
local macro_rules | `(tactic| ac_rfl) => `(tactic| ((repeat (first | symm | ((with_reducible show rdMod (.int _) (.int _) _ _); refine mod_any (by first | decide | assumption | omega) ?_; intro _ _ _))); try dsimp only))
end R
set_option maxRecDepth 100000
namespace R
open PySem PySem.Spec PyProof.Rows L2 DL
end R
set_option maxRecDepth 100000
set_option maxHeartbeats 1000000
namespace R
open PySem PySem.Spec PyProof.Rows L2 DL
local macro_rules | `(tactic| bv_omega) => `(tactic| first | assumption | exact mset_same)
local macro_rules | `(tactic| symm) => `(tactic| first
  | ((with_reducible show ∃ _, _ = _ ∧ _); refine ⟨_, rfl, ?_⟩)
  | ((with_reducible show _ = _ ∧ _); refine ⟨rfl, ?_⟩)
  | ((with_reducible show ∃ _ _, _ = _ ∧ _ = _ ∧ _); refine ⟨_, _, rfl, rfl, ?_⟩)
  | ((with_reducible show ∃ _ _, _ = _ ∧ _); refine ⟨_, _, rfl, ?_⟩)
  | ((with_reducible show ∃ _ _ _, _ = _ ∧ _); refine ⟨_, _, _, rfl, ?_⟩)
  | ((with_reducible show (_ ≤ _ ∧ _) ∧ _); refine ⟨by omega, ?_⟩)
  | with_reducible refine add_int ?_ | with_reducible refine sub_int ?_
  | with_reducible refine lt_int ?_ | with_reducible refine le_int ?_ | with_reducible refine gt_int ?_ | with_reducible refine ge_int ?_
  | with_reducible refine int_int ?_
  | with_reducible refine eq_int ?_ | with_reducible refine ne_int ?_
  | with_reducible refine len_tup ?_ | with_reducible refine len_lst ?_
  | ((with_reducible show rdIx (.cel _) (.int _) _ _); refine ix_cel (by bv_omega) (by rfl) ?_)
  | ((with_reducible show rdIx (.lst _) (.int _) _ _); refine ix_lst (by rfl) ?_)
  | ((with_reducible show rdIx (.tup _) (.int _) _ _); refine ix_tup (by rfl) ?_)
  | ((with_reducible show rdLen [.cel _] _ _); refine len_cel (by bv_omega) ?_)
  | ((with_reducible show rdMul (.int _) (.int _) _ _); first | refine mul_l (by decide) (by decide) ?_ | refine mul_r (by decide) (by decide) ?_ | refine mul_l (by omega) (by omega) ?_ | refine mul_r (by omega) (by omega) ?_)
  | ((with_reducible show rdDiv (.int _) (.int _) _ _); refine div_int (by first | decide | assumption | omega) (by first | decide | assumption | omega) ?_)
  | ((with_reducible show rdDivmod [.int _, .int _] _ _); refine dm_int (by first | decide | assumption | omega) (by first | decide | assumption | omega) ?_)
  | ((with_reducible show @ite _ (_ = true) _ _ _); first | refine ifYes (by first | with_reducible rfl | exact Bool.not_false | assumption) ?_ | refine ifNo (by first | with_reducible rfl | exact Bool.not_true | assumption) ?_)
  | ((with_reducible show ∃ _, _ ∧ _); refine ⟨_, celL_of (by bv_omega), ?_⟩)
  | ((with_reducible show ∃ _ _ _ _, _ ∧ _ ∧ _ ∧ _ ∧ _); refine ⟨_, _, _, _, rfl, rfl, by bv_omega, by rfl, ?_⟩)
  | ((with_reducible show (_ : Nat) ≤ sizeLine ∧ _); refine ⟨by rw [sizeLine_eq]; exact Nat.le_of_ble_eq_true rfl, ?_⟩))
local macro_rules | `(tactic| infer_instance) => `(tactic| ((repeat symm); try dsimp only))
local macro_rules | `(tactic| ac_rfl) => `(tactic| ((repeat (first | symm | ((with_reducible show rdMod (.int _) (.int _) _ _); refine mod_any (by first | decide | assumption | omega) ?_; intro _ _ _))); try dsimp only))
end R
set_option maxRecDepth 100000
set_option maxHeartbeats 1000000
namespace R
open PySem PySem.Spec PyProof.Rows L2 DL
local macro_rules | `(tactic| bv_omega) => `(tactic| first | assumption | exact mset_same)
local macro_rules | `(tactic| symm) => `(tactic| first
  | ((with_reducible show ∃ _, _ = _ ∧ _); refine ⟨_, rfl, ?_⟩)
  | ((with_reducible show _ = _ ∧ _); refine ⟨rfl, ?_⟩)
  | ((with_reducible show ∃ _ _, _ = _ ∧ _ = _ ∧ _); refine ⟨_, _, rfl, rfl, ?_⟩)
  | ((with_reducible show ∃ _ _, _ = _ ∧ _); refine ⟨_, _, rfl, ?_⟩)
  | ((with_reducible show ∃ _ _ _, _ = _ ∧ _); refine ⟨_, _, _, rfl, ?_⟩)
  | ((with_reducible show (_ ≤ _ ∧ _) ∧ _); refine ⟨by omega, ?_⟩)
  | with_reducible refine add_int ?_ | with_reducible refine sub_int ?_
  | with_reducible refine lt_int ?_ | with_reducible refine le_int ?_ | with_reducible refine gt_int ?_ | with_reducible refine ge_int ?_
  | with_reducible refine int_int ?_
  | with_reducible refine eq_int ?_ | with_reducible refine ne_int ?_
  | with_reducible refine len_tup ?_ | with_reducible refine len_lst ?_
  | ((with_reducible show rdIx (.cel _) (.int _) _ _); refine ix_cel (by bv_omega) (by rfl) ?_)
  | ((with_reducible show rdIx (.lst _) (.int _) _ _); refine ix_lst (by rfl) ?_)
  | ((with_reducible show rdIx (.tup _) (.int _) _ _); refine ix_tup (by rfl) ?_)
  | ((with_reducible show rdLen [.cel _] _ _); refine len_cel (by bv_omega) ?_)
  | ((with_reducible show rdMul (.int _) (.int _) _ _); first | refine mul_l (by decide) (by decide) ?_ | refine mul_r (by decide) (by decide) ?_ | refine mul_l (by omega) (by omega) ?_ | refine mul_r (by omega) (by omega) ?_)
  | ((with_reducible show rdDiv (.int _) (.int _) _ _); refine div_int (by first | decide | assumption | omega) (by first | decide | assumption | omega) ?_)
  | ((with_reducible show rdDivmod [.int _, .int _] _ _); refine dm_int (by first | decide | assumption | omega) (by first | decide | assumption | omega) ?_)
  | ((with_reducible show @ite _ (_ = true) _ _ _); first | refine ifYes (by first | with_reducible rfl | exact Bool.not_false | assumption) ?_ | refine ifNo (by first | with_reducible rfl | exact Bool.not_true | assumption) ?_)
  | ((with_reducible show ∃ _, _ ∧ _); refine ⟨_, celL_of (by bv_omega), ?_⟩)
  | ((with_reducible show ∃ _ _ _ _, _ ∧ _ ∧ _ ∧ _ ∧ _); refine ⟨_, _, _, _, rfl, rfl, by bv_omega, by rfl, ?_⟩)
  | ((with_reducible show (_ : Nat) ≤ sizeLine ∧ _); refine ⟨by rw [sizeLine_eq]; exact Nat.le_of_ble_eq_true rfl, ?_⟩))
local macro_rules | `(tactic| infer_instance) => `(tactic| ((repeat symm); try dsimp only))
local macro_rules | `(tactic| ac_rfl) => `(tactic| ((repeat (first | symm | ((with_reducible show rdMod (.int _) (.int _) _ _); refine mod_any (by first | decide | assumption | omega) ?_; intro _ _ _))); try dsimp only))
end R
set_option maxRecDepth 100000
set_option maxHeartbeats 1000000
namespace R
open PySem PySem.Spec PyProof.Rows L2 DL
local macro_rules | `(tactic| bv_omega) => `(tactic| first | assumption | exact mset_same)
local macro_rules | `(tactic| symm) => `(tactic| first
  | ((with_reducible show ∃ _, _ = _ ∧ _); refine ⟨_, rfl, ?_⟩)
  | ((with_reducible show _ = _ ∧ _); refine ⟨rfl, ?_⟩)
  | ((with_reducible show ∃ _ _, _ = _ ∧ _ = _ ∧ _); refine ⟨_, _, rfl, rfl, ?_⟩)
  | ((with_reducible show ∃ _ _, _ = _ ∧ _); refine ⟨_, _, rfl, ?_⟩)
  | ((with_reducible show ∃ _ _ _, _ = _ ∧ _); refine ⟨_, _, _, rfl, ?_⟩)
  | ((with_reducible show (_ ≤ _ ∧ _) ∧ _); refine ⟨by omega, ?_⟩)
  | with_reducible refine add_int ?_ | with_reducible refine sub_int ?_
  | with_reducible refine lt_int ?_ | with_reducible refine le_int ?_ | with_reducible refine gt_int ?_ | with_reducible refine ge_int ?_
  | with_reducible refine int_int ?_
  | with_reducible refine eq_int ?_ | with_reducible refine ne_int ?_
  | with_reducible refine len_tup ?_ | with_reducible refine len_lst ?_
  | ((with_reducible show rdIx (.cel _) (.int _) _ _); refine ix_cel (by bv_omega) (by rfl) ?_)
  | ((with_reducible show rdIx (.lst _) (.int _) _ _); refine ix_lst (by rfl) ?_)
  | ((with_reducible show rdIx (.tup _) (.int _) _ _); refine ix_tup (by rfl) ?_)
  | ((with_reducible show rdLen [.cel _] _ _); refine len_cel (by bv_omega) ?_)
  | ((with_reducible show rdMul (.int _) (.int _) _ _); first | refine mul_l (by decide) (by decide) ?_ | refine mul_r (by decide) (by decide) ?_ | refine mul_l (by omega) (by omega) ?_ | refine mul_r (by omega) (by omega) ?_)
  | ((with_reducible show rdDiv (.int _) (.int _) _ _); refine div_int (by first | decide | assumption | omega) (by first | decide | assumption | omega) ?_)
  | ((with_reducible show rdDivmod [.int _, .int _] _ _); refine dm_int (by first | decide | assumption | omega) (by first | decide | assumption | omega) ?_)
  | ((with_reducible show @ite _ (_ = true) _ _ _); first | refine ifYes (by first | with_reducible rfl | exact Bool.not_false | assumption) ?_ | refine ifNo (by first | with_reducible rfl | exact Bool.not_true | assumption) ?_)
  | ((with_reducible show ∃ _, _ ∧ _); refine ⟨_, celL_of (by bv_omega), ?_⟩)
  | ((with_reducible show ∃ _ _ _ _, _ ∧ _ ∧ _ ∧ _ ∧ _); refine ⟨_, _, _, _, rfl, rfl, by bv_omega, by rfl, ?_⟩)
  | ((with_reducible show (_ : Nat) ≤ sizeLine ∧ _); refine ⟨by rw [sizeLine_eq]; exact Nat.le_of_ble_eq_true rfl, ?_⟩))
local macro_rules | `(tactic| infer_instance) => `(tactic| ((repeat symm); try dsimp only))
local macro_rules | `(tactic| ac_rfl) => `(tactic| ((repeat (first | symm | ((with_reducible show rdMod (.int _) (.int _) _ _); refine mod_any (by first | decide | assumption | omega) ?_; intro _ _ _))); try dsimp only))
def abcf : List Str := ["a", "b", "c", "d", "e", "f"]
end R
set_option maxRecDepth 100000
namespace R
open PySem PySem.Spec PyProof.Rows L2 DL
end R
set_option maxRecDepth 100000
set_option maxHeartbeats 1000000
namespace R
open PySem PySem.Spec PyProof.Rows L2 DL
local macro_rules | `(tactic| bv_omega) => `(tactic| first | assumption | exact mset_same)
local macro_rules | `(tactic| symm) => `(tactic| first
  | ((with_reducible show ∃ _, _ = _ ∧ _); refine ⟨_, rfl, ?_⟩)
  | ((with_reducible show _ = _ ∧ _); refine ⟨rfl, ?_⟩)
  | ((with_reducible show ∃ _ _, _ = _ ∧ _ = _ ∧ _); refine ⟨_, _, rfl, rfl, ?_⟩)
  | ((with_reducible show ∃ _ _, _ = _ ∧ _); refine ⟨_, _, rfl, ?_⟩)
  | ((with_reducible show ∃ _ _ _, _ = _ ∧ _); refine ⟨_, _, _, rfl, ?_⟩)
  | ((with_reducible show (_ ≤ _ ∧ _) ∧ _); refine ⟨by omega, ?_⟩)
  | with_reducible refine add_int ?_ | with_reducible refine sub_int ?_
  | with_reducible refine lt_int ?_ | with_reducible refine le_int ?_ | with_reducible refine gt_int ?_ | with_reducible refine ge_int ?_
  | with_reducible refine int_int ?_
  | with_reducible refine eq_int ?_ | with_reducible refine ne_int ?_
  | with_reducible refine len_tup ?_ | with_reducible refine len_lst ?_
  | ((with_reducible show rdIx (.cel _) (.int _) _ _); refine ix_cel (by bv_omega) (by rfl) ?_)
  | ((with_reducible show rdIx (.lst _) (.int _) _ _); refine ix_lst (by rfl) ?_)
  | ((with_reducible show rdIx (.tup _) (.int _) _ _); refine ix_tup (by rfl) ?_)
  | ((with_reducible show rdLen [.cel _] _ _); refine len_cel (by bv_omega) ?_)
  | ((with_reducible show rdMul (.int _) (.int _) _ _); first | refine mul_l (by decide) (by decide) ?_ | refine mul_r (by decide) (by decide) ?_ | refine mul_l (by omega) (by omega) ?_ | refine mul_r (by omega) (by omega) ?_)
  | ((with_reducible show rdDiv (.int _) (.int _) _ _); refine div_int (by first | decide | assumption | omega) (by first | decide | assumption | omega) ?_)
  | ((with_reducible show rdDivmod [.int _, .int _] _ _); refine dm_int (by first | decide | assumption | omega) (by first | decide | assumption | omega) ?_)
  | ((with_reducible show @ite _ (_ = true) _ _ _); first | refine ifYes (by first | with_reducible rfl | exact Bool.not_false | assumption) ?_ | refine ifNo (by first | with_reducible rfl | exact Bool.not_true | assumption) ?_)
  | ((with_reducible show ∃ _, _ ∧ _); refine ⟨_, celL_of (by bv_omega), ?_⟩)
  | ((with_reducible show ∃ _ _ _ _, _ ∧ _ ∧ _ ∧ _ ∧ _); refine ⟨_, _, _, _, rfl, rfl, by bv_omega, by rfl, ?_⟩)
  | ((with_reducible show (_ : Nat) ≤ sizeLine ∧ _); refine ⟨by rw [sizeLine_eq]; exact Nat.le_of_ble_eq_true rfl, ?_⟩))
local macro_rules | `(tactic| infer_instance) => `(tactic| ((repeat symm); try dsimp only))
local macro_rules | `(tactic| ac_rfl) => `(tactic| ((repeat (first | symm | ((with_reducible show rdMod (.int _) (.int _) _ _); refine mod_any (by first | decide | assumption | omega) ?_; intro _ _ _))); try dsimp only))
structure Vast (size : Int) (n : Nat) (hs : List Host) : Prop where
  few : hs.length ≤ n
  names : ∀ h ∈ hs, h.name ∈ abcf.take n
  each : ∀ h ∈ hs, HostT size h
  apart : hs.Pairwise Apart
  marks : ∀ h ∈ hs, h.marks.length ≤ 4 ∧ h.rack ∈ (["r1", "r2", "r3"] : List Str)
theorem Vast.more {size : Int} {n : Nat} {hs : List Host} (G : Vast size n hs) : Vast size (n + 1) hs :=
  ⟨Nat.le_succ_of_le G.few, fun h hh => by rw [List.take_add_one]; exact List.mem_append_left _ (G.names h hh), G.each, G.apart, G.marks⟩
end R
set_option maxRecDepth 100000
set_option maxHeartbeats 1000000
namespace R
open PySem PySem.Spec PyProof.Rows L2 DL
local macro_rules | `(tactic| bv_omega) => `(tactic| first | assumption | exact mset_same)
local macro_rules | `(tactic| symm) => `(tactic| first
  | ((with_reducible show ∃ _, _ = _ ∧ _); refine ⟨_, rfl, ?_⟩)
  | ((with_reducible show _ = _ ∧ _); refine ⟨rfl, ?_⟩)
  | ((with_reducible show ∃ _ _, _ = _ ∧ _ = _ ∧ _); refine ⟨_, _, rfl, rfl, ?_⟩)
  | ((with_reducible show ∃ _ _, _ = _ ∧ _); refine ⟨_, _, rfl, ?_⟩)
  | ((with_reducible show ∃ _ _ _, _ = _ ∧ _); refine ⟨_, _, _, rfl, ?_⟩)
  | ((with_reducible show (_ ≤ _ ∧ _) ∧ _); refine ⟨by omega, ?_⟩)
  | with_reducible refine add_int ?_ | with_reducible refine sub_int ?_
  | with_reducible refine lt_int ?_ | with_reducible refine le_int ?_ | with_reducible refine gt_int ?_ | with_reducible refine ge_int ?_
  | with_reducible refine int_int ?_
  | with_reducible refine eq_int ?_ | with_reducible refine ne_int ?_
  | with_reducible refine len_tup ?_ | with_reducible refine len_lst ?_
  | ((with_reducible show rdIx (.cel _) (.int _) _ _); refine ix_cel (by bv_omega) (by rfl) ?_)
  | ((with_reducible show rdIx (.lst _) (.int _) _ _); refine ix_lst (by rfl) ?_)
  | ((with_reducible show rdIx (.tup _) (.int _) _ _); refine ix_tup (by rfl) ?_)
  | ((with_reducible show rdLen [.cel _] _ _); refine len_cel (by bv_omega) ?_)
  | ((with_reducible show rdMul (.int _) (.int _) _ _); first | refine mul_l (by decide) (by decide) ?_ | refine mul_r (by decide) (by decide) ?_ | refine mul_l (by omega) (by omega) ?_ | refine mul_r (by omega) (by omega) ?_)
  | ((with_reducible show rdDiv (.int _) (.int _) _ _); refine div_int (by first | decide | assumption | omega) (by first | decide | assumption | omega) ?_)
  | ((with_reducible show rdDivmod [.int _, .int _] _ _); refine dm_int (by first | decide | assumption | omega) (by first | decide | assumption | omega) ?_)
  | ((with_reducible show @ite _ (_ = true) _ _ _); first | refine ifYes (by first | with_reducible rfl | exact Bool.not_false | assumption) ?_ | refine ifNo (by first | with_reducible rfl | exact Bool.not_true | assumption) ?_)
  | ((with_reducible show ∃ _, _ ∧ _); refine ⟨_, celL_of (by bv_omega), ?_⟩)
  | ((with_reducible show ∃ _ _ _ _, _ ∧ _ ∧ _ ∧ _ ∧ _); refine ⟨_, _, _, _, rfl, rfl, by bv_omega, by rfl, ?_⟩)
  | ((with_reducible show (_ : Nat) ≤ sizeLine ∧ _); refine ⟨by rw [sizeLine_eq]; exact Nat.le_of_ble_eq_true rfl, ?_⟩))
local macro_rules | `(tactic| infer_instance) => `(tactic| ((repeat symm); try dsimp only))
local macro_rules | `(tactic| ac_rfl) => `(tactic| ((repeat (first | symm | ((with_reducible show rdMod (.int _) (.int _) _ _); refine mod_any (by first | decide | assumption | omega) ?_; intro _ _ _))); try dsimp only))
/-- the names of both, ascending -/
structure Both (hs hs' : List Host) (ys : List Str) : Prop where
  nd : ys.Nodup
  mem : ∀ x, x ∈ ys ↔ x ∈ hs.map (·.name) ∨ x ∈ hs'.map (·.name)
  asc : PyProof.Rows.sortedS ys = true
end R
set_option maxRecDepth 100000
namespace R
open PySem PySem.Spec PyProof.Rows L2 DL
end R
set_option maxRecDepth 100000
set_option maxHeartbeats 1000000
namespace R
open PySem PySem.Spec PyProof.Rows L2 DL
local macro_rules | `(tactic| bv_omega) => `(tactic| first | assumption | exact mset_same)
local macro_rules | `(tactic| symm) => `(tactic| first
  | ((with_reducible show ∃ _, _ = _ ∧ _); refine ⟨_, rfl, ?_⟩)
  | ((with_reducible show _ = _ ∧ _); refine ⟨rfl, ?_⟩)
  | ((with_reducible show ∃ _ _, _ = _ ∧ _ = _ ∧ _); refine ⟨_, _, rfl, rfl, ?_⟩)
  | ((with_reducible show ∃ _ _, _ = _ ∧ _); refine ⟨_, _, rfl, ?_⟩)
  | ((with_reducible show ∃ _ _ _, _ = _ ∧ _); refine ⟨_, _, _, rfl, ?_⟩)
  | ((with_reducible show (_ ≤ _ ∧ _) ∧ _); refine ⟨by omega, ?_⟩)
  | with_reducible refine add_int ?_ | with_reducible refine sub_int ?_
  | with_reducible refine lt_int ?_ | with_reducible refine le_int ?_ | with_reducible refine gt_int ?_ | with_reducible refine ge_int ?_
  | with_reducible refine int_int ?_
  | with_reducible refine eq_int ?_ | with_reducible refine ne_int ?_
  | with_reducible refine len_tup ?_ | with_reducible refine len_lst ?_
  | ((with_reducible show rdIx (.cel _) (.int _) _ _); refine ix_cel (by bv_omega) (by rfl) ?_)
  | ((with_reducible show rdIx (.lst _) (.int _) _ _); refine ix_lst (by rfl) ?_)
  | ((with_reducible show rdIx (.tup _) (.int _) _ _); refine ix_tup (by rfl) ?_)
  | ((with_reducible show rdLen [.cel _] _ _); refine len_cel (by bv_omega) ?_)
  | ((with_reducible show rdMul (.int _) (.int _) _ _); first | refine mul_l (by decide) (by decide) ?_ | refine mul_r (by decide) (by decide) ?_ | refine mul_l (by omega) (by omega) ?_ | refine mul_r (by omega) (by omega) ?_)
  | ((with_reducible show rdDiv (.int _) (.int _) _ _); refine div_int (by first | decide | assumption | omega) (by first | decide | assumption | omega) ?_)
  | ((with_reducible show rdDivmod [.int _, .int _] _ _); refine dm_int (by first | decide | assumption | omega) (by first | decide | assumption | omega) ?_)
  | ((with_reducible show @ite _ (_ = true) _ _ _); first | refine ifYes (by first | with_reducible rfl | exact Bool.not_false | assumption) ?_ | refine ifNo (by first | with_reducible rfl | exact Bool.not_true | assumption) ?_)
  | ((with_reducible show ∃ _, _ ∧ _); refine ⟨_, celL_of (by bv_omega), ?_⟩)
  | ((with_reducible show ∃ _ _ _ _, _ ∧ _ ∧ _ ∧ _ ∧ _); refine ⟨_, _, _, _, rfl, rfl, by bv_omega, by rfl, ?_⟩)
  | ((with_reducible show (_ : Nat) ≤ sizeLine ∧ _); refine ⟨by rw [sizeLine_eq]; exact Nat.le_of_ble_eq_true rfl, ?_⟩))
local macro_rules | `(tactic| infer_instance) => `(tactic| ((repeat symm); try dsimp only))
local macro_rules | `(tactic| ac_rfl) => `(tactic| ((repeat (first | symm | ((with_reducible show rdMod (.int _) (.int _) _ _); refine mod_any (by first | decide | assumption | omega) ?_; intro _ _ _))); try dsimp only))
theorem Both.swap {hs hs' : List Host} {ys : List Str} (a : Both hs hs' ys) : Both hs' hs ys := ⟨a.nd, fun x => (a.mem x).trans Or.comm, a.asc⟩
end R
set_option maxRecDepth 100000
set_option maxHeartbeats 1000000
namespace R
open PySem PySem.Spec PyProof.Rows L2 DL
local macro_rules | `(tactic| bv_omega) => `(tactic| first | assumption | exact mset_same)
local macro_rules | `(tactic| symm) => `(tactic| first
  | ((with_reducible show ∃ _, _ = _ ∧ _); refine ⟨_, rfl, ?_⟩)
  | ((with_reducible show _ = _ ∧ _); refine ⟨rfl, ?_⟩)
  | ((with_reducible show ∃ _ _, _ = _ ∧ _ = _ ∧ _); refine ⟨_, _, rfl, rfl, ?_⟩)
  | ((with_reducible show ∃ _ _, _ = _ ∧ _); refine ⟨_, _, rfl, ?_⟩)
  | ((with_reducible show ∃ _ _ _, _ = _ ∧ _); refine ⟨_, _, _, rfl, ?_⟩)
  | ((with_reducible show (_ ≤ _ ∧ _) ∧ _); refine ⟨by omega, ?_⟩)
  | with_reducible refine add_int ?_ | with_reducible refine sub_int ?_
  | with_reducible refine lt_int ?_ | with_reducible refine le_int ?_ | with_reducible refine gt_int ?_ | with_reducible refine ge_int ?_
  | with_reducible refine int_int ?_
  | with_reducible refine eq_int ?_ | with_reducible refine ne_int ?_
  | with_reducible refine len_tup ?_ | with_reducible refine len_lst ?_
  | ((with_reducible show rdIx (.cel _) (.int _) _ _); refine ix_cel (by bv_omega) (by rfl) ?_)
  | ((with_reducible show rdIx (.lst _) (.int _) _ _); refine ix_lst (by rfl) ?_)
  | ((with_reducible show rdIx (.tup _) (.int _) _ _); refine ix_tup (by rfl) ?_)
  | ((with_reducible show rdLen [.cel _] _ _); refine len_cel (by bv_omega) ?_)
  | ((with_reducible show rdMul (.int _) (.int _) _ _); first | refine mul_l (by decide) (by decide) ?_ | refine mul_r (by decide) (by decide) ?_ | refine mul_l (by omega) (by omega) ?_ | refine mul_r (by omega) (by omega) ?_)
  | ((with_reducible show rdDiv (.int _) (.int _) _ _); refine div_int (by first | decide | assumption | omega) (by first | decide | assumption | omega) ?_)
  | ((with_reducible show rdDivmod [.int _, .int _] _ _); refine dm_int (by first | decide | assumption | omega) (by first | decide | assumption | omega) ?_)
  | ((with_reducible show @ite _ (_ = true) _ _ _); first | refine ifYes (by first | with_reducible rfl | exact Bool.not_false | assumption) ?_ | refine ifNo (by first | with_reducible rfl | exact Bool.not_true | assumption) ?_)
  | ((with_reducible show ∃ _, _ ∧ _); refine ⟨_, celL_of (by bv_omega), ?_⟩)
  | ((with_reducible show ∃ _ _ _ _, _ ∧ _ ∧ _ ∧ _ ∧ _); refine ⟨_, _, _, _, rfl, rfl, by bv_omega, by rfl, ?_⟩)
  | ((with_reducible show (_ : Nat) ≤ sizeLine ∧ _); refine ⟨by rw [sizeLine_eq]; exact Nat.le_of_ble_eq_true rfl, ?_⟩))
local macro_rules | `(tactic| infer_instance) => `(tactic| ((repeat symm); try dsimp only))
local macro_rules | `(tactic| ac_rfl) => `(tactic| ((repeat (first | symm | ((with_reducible show rdMod (.int _) (.int _) _ _); refine mod_any (by first | decide | assumption | omega) ?_; intro _ _ _))); try dsimp only))
end R
set_option maxRecDepth 100000
set_option maxHeartbeats 1000000
namespace R
open PySem PySem.Spec PyProof.Rows L2 DL
local macro_rules | `(tactic| bv_omega) => `(tactic| first | assumption | exact mset_same)
local macro_rules | `(tactic| symm) => `(tactic| first
  | ((with_reducible show ∃ _, _ = _ ∧ _); refine ⟨_, rfl, ?_⟩)
  | ((with_reducible show _ = _ ∧ _); refine ⟨rfl, ?_⟩)
  | ((with_reducible show ∃ _ _, _ = _ ∧ _ = _ ∧ _); refine ⟨_, _, rfl, rfl, ?_⟩)
  | ((with_reducible show ∃ _ _, _ = _ ∧ _); refine ⟨_, _, rfl, ?_⟩)
  | ((with_reducible show ∃ _ _ _, _ = _ ∧ _); refine ⟨_, _, _, rfl, ?_⟩)
  | ((with_reducible show (_ ≤ _ ∧ _) ∧ _); refine ⟨by omega, ?_⟩)
  | with_reducible refine add_int ?_ | with_reducible refine sub_int ?_
  | with_reducible refine lt_int ?_ | with_reducible refine le_int ?_ | with_reducible refine gt_int ?_ | with_reducible refine ge_int ?_
  | with_reducible refine int_int ?_
  | with_reducible refine eq_int ?_ | with_reducible refine ne_int ?_
  | with_reducible refine len_tup ?_ | with_reducible refine len_lst ?_
  | ((with_reducible show rdIx (.cel _) (.int _) _ _); refine ix_cel (by bv_omega) (by rfl) ?_)
  | ((with_reducible show rdIx (.lst _) (.int _) _ _); refine ix_lst (by rfl) ?_)
  | ((with_reducible show rdIx (.tup _) (.int _) _ _); refine ix_tup (by rfl) ?_)
  | ((with_reducible show rdLen [.cel _] _ _); refine len_cel (by bv_omega) ?_)
  | ((with_reducible show rdMul (.int _) (.int _) _ _); first | refine mul_l (by decide) (by decide) ?_ | refine mul_r (by decide) (by decide) ?_ | refine mul_l (by omega) (by omega) ?_ | refine mul_r (by omega) (by omega) ?_)
  | ((with_reducible show rdDiv (.int _) (.int _) _ _); refine div_int (by first | decide | assumption | omega) (by first | decide | assumption | omega) ?_)
  | ((with_reducible show rdDivmod [.int _, .int _] _ _); refine dm_int (by first | decide | assumption | omega) (by first | decide | assumption | omega) ?_)
  | ((with_reducible show @ite _ (_ = true) _ _ _); first | refine ifYes (by first | with_reducible rfl | exact Bool.not_false | assumption) ?_ | refine ifNo (by first | with_reducible rfl | exact Bool.not_true | assumption) ?_)
  | ((with_reducible show ∃ _, _ ∧ _); refine ⟨_, celL_of (by bv_omega), ?_⟩)
  | ((with_reducible show ∃ _ _ _ _, _ ∧ _ ∧ _ ∧ _ ∧ _); refine ⟨_, _, _, _, rfl, rfl, by bv_omega, by rfl, ?_⟩)
  | ((with_reducible show (_ : Nat) ≤ sizeLine ∧ _); refine ⟨by rw [sizeLine_eq]; exact Nat.le_of_ble_eq_true rfl, ?_⟩))
local macro_rules | `(tactic| infer_instance) => `(tactic| ((repeat symm); try dsimp only))
local macro_rules | `(tactic| ac_rfl) => `(tactic| ((repeat (first | symm | ((with_reducible show rdMod (.int _) (.int _) _ _); refine mod_any (by first | decide | assumption | omega) ?_; intro _ _ _))); try dsimp only))
theorem sumTo_zero {f : Int → Int} (h : ∀ p, f p = 0) : ∀ n, sumTo f n = 0
  | 0 => rfl
  | n + 1 => by show sumTo f n + f (n : Nat) = 0; rw [sumTo_zero h n, h]; rfl
theorem sumTo_ext {f g : Int → Int} (h : ∀ p, f p = g p) (n : Nat) : sumTo f n = sumTo g n := by rw [show f = g from funext h]
theorem sum_swap (f : Str → Int → Int) : ∀ (ys : List Str) (n : Nat), (ys.map fun x => sumTo (f x) n).sum = sumTo (fun p => (ys.map fun x => f x p).sum) n
  | [], n => (sumTo_zero (fun _ => rfl) n).symm
  | y :: ys, n => by
    rw [List.map_cons, List.sum_cons, sum_swap f ys n]
    induction n with
    | zero => rfl
    | succ n ih =>
      show sumTo (f y) n + f y (n : Nat) + (sumTo _ n + _) = sumTo _ n + _
      have e : sumTo (f y) n + sumTo (fun p => (ys.map fun x => f x p).sum) n = sumTo (fun p => ((y :: ys).map fun x => f x p).sum) n := ih
      rw [← e]
      dsimp only
      rw [List.map_cons, List.sum_cons]
      omega
theorem sum_ite {p : Str → Bool} : ∀ ys : List Str, (ys.map fun x => (if p x = true then 1 else 0 : Int)).sum = ((ys.filter p).length : Int)
  | [] => rfl
  | y :: ys => by
    rw [List.map_cons, List.sum_cons, sum_ite ys, List.filter_cons]
    by_cases h : p y = true
    · rw [if_pos h, if_pos h, List.length_cons]; omega
    · rw [if_neg h, if_neg h]; omega
noncomputable def cntK (size : Int) (r : Rule) (hs : List Host) (x : Str) (p : Int) : Int := if decide (x ∈ keepF size r hs p) = true then 1 else 0
theorem kept_all {size : Int} {r : Rule} {hs : List Host} (s1 : 1 ≤ size) (hc : CrewOk size hs) (x : Str) : keptN size r hs x = sumTo (cntK size r hs x) size.toNat := by
  unfold keptN
  rw [filter_wsum (p := fun m => decide (x ∈ keepF size r hs m))]
  exact cells_sumTo s1 hc (fun w => if decide (x ∈ keepersOf r hs w) = true then 1 else 0)
end R
set_option maxRecDepth 100000
set_option maxHeartbeats 4000000
namespace DL
open PySem PySem.Spec PyProof.Rows L2 SrtO
end DL
set_option maxRecDepth 100000
set_option maxHeartbeats 1000000
namespace R
open PySem PySem.Spec PyProof.Rows L2 DL
local macro_rules | `(tactic| bv_omega) => `(tactic| first | assumption | exact mset_same)
local macro_rules | `(tactic| symm) => `(tactic| first
  | ((with_reducible show ∃ _, _ = _ ∧ _); refine ⟨_, rfl, ?_⟩)
  | ((with_reducible show _ = _ ∧ _); refine ⟨rfl, ?_⟩)
  | ((with_reducible show ∃ _ _, _ = _ ∧ _ = _ ∧ _); refine ⟨_, _, rfl, rfl, ?_⟩)
  | ((with_reducible show ∃ _ _, _ = _ ∧ _); refine ⟨_, _, rfl, ?_⟩)
  | ((with_reducible show ∃ _ _ _, _ = _ ∧ _); refine ⟨_, _, _, rfl, ?_⟩)
  | ((with_reducible show (_ ≤ _ ∧ _) ∧ _); refine ⟨by omega, ?_⟩)
  | with_reducible refine add_int ?_ | with_reducible refine sub_int ?_
  | with_reducible refine lt_int ?_ | with_reducible refine le_int ?_ | with_reducible refine gt_int ?_ | with_reducible refine ge_int ?_
  | with_reducible refine int_int ?_
  | with_reducible refine eq_int ?_ | with_reducible refine ne_int ?_
  | with_reducible refine len_tup ?_ | with_reducible refine len_lst ?_
  | ((with_reducible show rdIx (.cel _) (.int _) _ _); refine ix_cel (by bv_omega) (by rfl) ?_)
  | ((with_reducible show rdIx (.lst _) (.int _) _ _); refine ix_lst (by rfl) ?_)
  | ((with_reducible show rdIx (.tup _) (.int _) _ _); refine ix_tup (by rfl) ?_)
  | ((with_reducible show rdLen [.cel _] _ _); refine len_cel (by bv_omega) ?_)
  | ((with_reducible show rdMul (.int _) (.int _) _ _); first | refine mul_l (by decide) (by decide) ?_ | refine mul_r (by decide) (by decide) ?_ | refine mul_l (by omega) (by omega) ?_ | refine mul_r (by omega) (by omega) ?_)
  | ((with_reducible show rdDiv (.int _) (.int _) _ _); refine div_int (by first | decide | assumption | omega) (by first | decide | assumption | omega) ?_)
  | ((with_reducible show rdDivmod [.int _, .int _] _ _); refine dm_int (by first | decide | assumption | omega) (by first | decide | assumption | omega) ?_)
  | ((with_reducible show @ite _ (_ = true) _ _ _); first | refine ifYes (by first | with_reducible rfl | exact Bool.not_false | assumption) ?_ | refine ifNo (by first | with_reducible rfl | exact Bool.not_true | assumption) ?_)
  | ((with_reducible show ∃ _, _ ∧ _); refine ⟨_, celL_of (by bv_omega), ?_⟩)
  | ((with_reducible show ∃ _ _ _ _, _ ∧ _ ∧ _ ∧ _ ∧ _); refine ⟨_, _, _, _, rfl, rfl, by bv_omega, by rfl, ?_⟩)
  | ((with_reducible show (_ : Nat) ≤ sizeLine ∧ _); refine ⟨by rw [sizeLine_eq]; exact Nat.le_of_ble_eq_true rfl, ?_⟩))
local macro_rules | `(tactic| infer_instance) => `(tactic| ((repeat symm); try dsimp only))
local macro_rules | `(tactic| ac_rfl) => `(tactic| ((repeat (first | symm | ((with_reducible show rdMod (.int _) (.int _) _ _); refine mod_any (by first | decide | assumption | omega) ?_; intro _ _ _))); try dsimp only))
end R
set_option maxRecDepth 100000
namespace R
open PySem PySem.Spec PyProof.Rows L2 DL
end R
set_option maxRecDepth 100000
set_option maxHeartbeats 1000000
namespace R
open PySem PySem.Spec PyProof.Rows L2 DL
local macro_rules | `(tactic| bv_omega) => `(tactic| first | assumption | exact mset_same)
local macro_rules | `(tactic| symm) => `(tactic| first
  | ((with_reducible show ∃ _, _ = _ ∧ _); refine ⟨_, rfl, ?_⟩)
  | ((with_reducible show _ = _ ∧ _); refine ⟨rfl, ?_⟩)
  | ((with_reducible show ∃ _ _, _ = _ ∧ _ = _ ∧ _); refine ⟨_, _, rfl, rfl, ?_⟩)
  | ((with_reducible show ∃ _ _, _ = _ ∧ _); refine ⟨_, _, rfl, ?_⟩)
  | ((with_reducible show ∃ _ _ _, _ = _ ∧ _); refine ⟨_, _, _, rfl, ?_⟩)
  | ((with_reducible show (_ ≤ _ ∧ _) ∧ _); refine ⟨by omega, ?_⟩)
  | with_reducible refine add_int ?_ | with_reducible refine sub_int ?_
  | with_reducible refine lt_int ?_ | with_reducible refine le_int ?_ | with_reducible refine gt_int ?_ | with_reducible refine ge_int ?_
  | with_reducible refine int_int ?_
  | with_reducible refine eq_int ?_ | with_reducible refine ne_int ?_
  | with_reducible refine len_tup ?_ | with_reducible refine len_lst ?_
  | ((with_reducible show rdIx (.cel _) (.int _) _ _); refine ix_cel (by bv_omega) (by rfl) ?_)
  | ((with_reducible show rdIx (.lst _) (.int _) _ _); refine ix_lst (by rfl) ?_)
  | ((with_reducible show rdIx (.tup _) (.int _) _ _); refine ix_tup (by rfl) ?_)
  | ((with_reducible show rdLen [.cel _] _ _); refine len_cel (by bv_omega) ?_)
  | ((with_reducible show rdMul (.int _) (.int _) _ _); first | refine mul_l (by decide) (by decide) ?_ | refine mul_r (by decide) (by decide) ?_ | refine mul_l (by omega) (by omega) ?_ | refine mul_r (by omega) (by omega) ?_)
  | ((with_reducible show rdDiv (.int _) (.int _) _ _); refine div_int (by first | decide | assumption | omega) (by first | decide | assumption | omega) ?_)
  | ((with_reducible show rdDivmod [.int _, .int _] _ _); refine dm_int (by first | decide | assumption | omega) (by first | decide | assumption | omega) ?_)
  | ((with_reducible show @ite _ (_ = true) _ _ _); first | refine ifYes (by first | with_reducible rfl | exact Bool.not_false | assumption) ?_ | refine ifNo (by first | with_reducible rfl | exact Bool.not_true | assumption) ?_)
  | ((with_reducible show ∃ _, _ ∧ _); refine ⟨_, celL_of (by bv_omega), ?_⟩)
  | ((with_reducible show ∃ _ _ _ _, _ ∧ _ ∧ _ ∧ _ ∧ _); refine ⟨_, _, _, _, rfl, rfl, by bv_omega, by rfl, ?_⟩)
  | ((with_reducible show (_ : Nat) ≤ sizeLine ∧ _); refine ⟨by rw [sizeLine_eq]; exact Nat.le_of_ble_eq_true rfl, ?_⟩))
local macro_rules | `(tactic| infer_instance) => `(tactic| ((repeat symm); try dsimp only))
local macro_rules | `(tactic| ac_rfl) => `(tactic| ((repeat (first | symm | ((with_reducible show rdMod (.int _) (.int _) _ _); refine mod_any (by first | decide | assumption | omega) ?_; intro _ _ _))); try dsimp only))
theorem keepF_nd {size p : Int} {r : Rule} {hs : List Host} (hc : CrewOk size hs) : (keepF size r hs p).Nodup := by
  have hw := walk_nd hc (walkF_ok hc p)
  unfold keepF keepersOf
  refine List.Pairwise.sublist (List.take_sublist _ _) ?_
  split
  · exact (newRacks_perm _).nodup_iff.mpr hw
  · exact hw
end R
set_option maxRecDepth 100000
set_option maxHeartbeats 1000000
namespace R
open PySem PySem.Spec PyProof.Rows L2 DL
local macro_rules | `(tactic| bv_omega) => `(tactic| first | assumption | exact mset_same)
local macro_rules | `(tactic| symm) => `(tactic| first
  | ((with_reducible show ∃ _, _ = _ ∧ _); refine ⟨_, rfl, ?_⟩)
  | ((with_reducible show _ = _ ∧ _); refine ⟨rfl, ?_⟩)
  | ((with_reducible show ∃ _ _, _ = _ ∧ _ = _ ∧ _); refine ⟨_, _, rfl, rfl, ?_⟩)
  | ((with_reducible show ∃ _ _, _ = _ ∧ _); refine ⟨_, _, rfl, ?_⟩)
  | ((with_reducible show ∃ _ _ _, _ = _ ∧ _); refine ⟨_, _, _, rfl, ?_⟩)
  | ((with_reducible show (_ ≤ _ ∧ _) ∧ _); refine ⟨by omega, ?_⟩)
  | with_reducible refine add_int ?_ | with_reducible refine sub_int ?_
  | with_reducible refine lt_int ?_ | with_reducible refine le_int ?_ | with_reducible refine gt_int ?_ | with_reducible refine ge_int ?_
  | with_reducible refine int_int ?_
  | with_reducible refine eq_int ?_ | with_reducible refine ne_int ?_
  | with_reducible refine len_tup ?_ | with_reducible refine len_lst ?_
  | ((with_reducible show rdIx (.cel _) (.int _) _ _); refine ix_cel (by bv_omega) (by rfl) ?_)
  | ((with_reducible show rdIx (.lst _) (.int _) _ _); refine ix_lst (by rfl) ?_)
  | ((with_reducible show rdIx (.tup _) (.int _) _ _); refine ix_tup (by rfl) ?_)
  | ((with_reducible show rdLen [.cel _] _ _); refine len_cel (by bv_omega) ?_)
  | ((with_reducible show rdMul (.int _) (.int _) _ _); first | refine mul_l (by decide) (by decide) ?_ | refine mul_r (by decide) (by decide) ?_ | refine mul_l (by omega) (by omega) ?_ | refine mul_r (by omega) (by omega) ?_)
  | ((with_reducible show rdDiv (.int _) (.int _) _ _); refine div_int (by first | decide | assumption | omega) (by first | decide | assumption | omega) ?_)
  | ((with_reducible show rdDivmod [.int _, .int _] _ _); refine dm_int (by first | decide | assumption | omega) (by first | decide | assumption | omega) ?_)
  | ((with_reducible show @ite _ (_ = true) _ _ _); first | refine ifYes (by first | with_reducible rfl | exact Bool.not_false | assumption) ?_ | refine ifNo (by first | with_reducible rfl | exact Bool.not_true | assumption) ?_)
  | ((with_reducible show ∃ _, _ ∧ _); refine ⟨_, celL_of (by bv_omega), ?_⟩)
  | ((with_reducible show ∃ _ _ _ _, _ ∧ _ ∧ _ ∧ _ ∧ _); refine ⟨_, _, _, _, rfl, rfl, by bv_omega, by rfl, ?_⟩)
  | ((with_reducible show (_ : Nat) ≤ sizeLine ∧ _); refine ⟨by rw [sizeLine_eq]; exact Nat.le_of_ble_eq_true rfl, ?_⟩))
local macro_rules | `(tactic| infer_instance) => `(tactic| ((repeat symm); try dsimp only))
local macro_rules | `(tactic| ac_rfl) => `(tactic| ((repeat (first | symm | ((with_reducible show rdMod (.int _) (.int _) _ _); refine mod_any (by first | decide | assumption | omega) ?_; intro _ _ _))); try dsimp only))
end R
set_option maxRecDepth 100000
set_option maxHeartbeats 1000000
namespace R
open PySem PySem.Spec PyProof.Rows L2 DL
local macro_rules | `(tactic| bv_omega) => `(tactic| first | assumption | exact mset_same)
local macro_rules | `(tactic| symm) => `(tactic| first
  | ((with_reducible show ∃ _, _ = _ ∧ _); refine ⟨_, rfl, ?_⟩)
  | ((with_reducible show _ = _ ∧ _); refine ⟨rfl, ?_⟩)
  | ((with_reducible show ∃ _ _, _ = _ ∧ _ = _ ∧ _); refine ⟨_, _, rfl, rfl, ?_⟩)
  | ((with_reducible show ∃ _ _, _ = _ ∧ _); refine ⟨_, _, rfl, ?_⟩)
  | ((with_reducible show ∃ _ _ _, _ = _ ∧ _); refine ⟨_, _, _, rfl, ?_⟩)
  | ((with_reducible show (_ ≤ _ ∧ _) ∧ _); refine ⟨by omega, ?_⟩)
  | with_reducible refine add_int ?_ | with_reducible refine sub_int ?_
  | with_reducible refine lt_int ?_ | with_reducible refine le_int ?_ | with_reducible refine gt_int ?_ | with_reducible refine ge_int ?_
  | with_reducible refine int_int ?_
  | with_reducible refine eq_int ?_ | with_reducible refine ne_int ?_
  | with_reducible refine len_tup ?_ | with_reducible refine len_lst ?_
  | ((with_reducible show rdIx (.cel _) (.int _) _ _); refine ix_cel (by bv_omega) (by rfl) ?_)
  | ((with_reducible show rdIx (.lst _) (.int _) _ _); refine ix_lst (by rfl) ?_)
  | ((with_reducible show rdIx (.tup _) (.int _) _ _); refine ix_tup (by rfl) ?_)
  | ((with_reducible show rdLen [.cel _] _ _); refine len_cel (by bv_omega) ?_)
  | ((with_reducible show rdMul (.int _) (.int _) _ _); first | refine mul_l (by decide) (by decide) ?_ | refine mul_r (by decide) (by decide) ?_ | refine mul_l (by omega) (by omega) ?_ | refine mul_r (by omega) (by omega) ?_)
  | ((with_reducible show rdDiv (.int _) (.int _) _ _); refine div_int (by first | decide | assumption | omega) (by first | decide | assumption | omega) ?_)
  | ((with_reducible show rdDivmod [.int _, .int _] _ _); refine dm_int (by first | decide | assumption | omega) (by first | decide | assumption | omega) ?_)
  | ((with_reducible show @ite _ (_ = true) _ _ _); first | refine ifYes (by first | with_reducible rfl | exact Bool.not_false | assumption) ?_ | refine ifNo (by first | with_reducible rfl | exact Bool.not_true | assumption) ?_)
  | ((with_reducible show ∃ _, _ ∧ _); refine ⟨_, celL_of (by bv_omega), ?_⟩)
  | ((with_reducible show ∃ _ _ _ _, _ ∧ _ ∧ _ ∧ _ ∧ _); refine ⟨_, _, _, _, rfl, rfl, by bv_omega, by rfl, ?_⟩)
  | ((with_reducible show (_ : Nat) ≤ sizeLine ∧ _); refine ⟨by rw [sizeLine_eq]; exact Nat.le_of_ble_eq_true rfl, ?_⟩))
local macro_rules | `(tactic| infer_instance) => `(tactic| ((repeat symm); try dsimp only))
local macro_rules | `(tactic| ac_rfl) => `(tactic| ((repeat (first | symm | ((with_reducible show rdMod (.int _) (.int _) _ _); refine mod_any (by first | decide | assumption | omega) ?_; intro _ _ _))); try dsimp only))
inductive Linked (size : Int) : Int → List (Int × Int × Int) → Int → Prop
  | nil (p : Int) : Linked size p [] p
  | cons {p m mk e : Int} {l : List (Int × Int × Int)} : 1 ≤ m → m ≤ size → (p + m) % size = mk % size → Linked size mk l e → Linked size p (((p + 1) % size, m, mk) :: l) e
theorem Linked.app {size p q e : Int} {a b : List (Int × Int × Int)} (h : Linked size p a q) (h' : Linked size q b e) : Linked size p (a ++ b) e := by
  induction h with
  | nil => exact h'
  | cons h1 h2 h3 _ ih => exact .cons h1 h2 h3 (ih h')
theorem Linked.split {size p e : Int} {l : List (Int × Int × Int)} (h : Linked size p l e) : ∀ k, ∃ q, Linked size p (l.take k) q ∧ Linked size q (l.drop k) e := by
  induction h with
  | nil p => intro k; exact ⟨p, by rw [List.take_nil]; exact .nil p, by rw [List.drop_nil]; exact .nil p⟩
  | cons h1 h2 h3 h4 ih =>
    intro k
    cases k with
    | zero => exact ⟨_, .nil _, .cons h1 h2 h3 h4⟩
    | succ k =>
      obtain ⟨q, a, b⟩ := ih k
      exact ⟨q, .cons h1 h2 h3 a, b⟩
end R
set_option maxRecDepth 100000
set_option maxHeartbeats 1000000
namespace R
open PySem PySem.Spec PyProof.Rows L2 DL
local macro_rules | `(tactic| bv_omega) => `(tactic| first | assumption | exact mset_same)
local macro_rules | `(tactic| symm) => `(tactic| first
  | ((with_reducible show ∃ _, _ = _ ∧ _); refine ⟨_, rfl, ?_⟩)
  | ((with_reducible show _ = _ ∧ _); refine ⟨rfl, ?_⟩)
  | ((with_reducible show ∃ _ _, _ = _ ∧ _ = _ ∧ _); refine ⟨_, _, rfl, rfl, ?_⟩)
  | ((with_reducible show ∃ _ _, _ = _ ∧ _); refine ⟨_, _, rfl, ?_⟩)
  | ((with_reducible show ∃ _ _ _, _ = _ ∧ _); refine ⟨_, _, _, rfl, ?_⟩)
  | ((with_reducible show (_ ≤ _ ∧ _) ∧ _); refine ⟨by omega, ?_⟩)
  | with_reducible refine add_int ?_ | with_reducible refine sub_int ?_
  | with_reducible refine lt_int ?_ | with_reducible refine le_int ?_ | with_reducible refine gt_int ?_ | with_reducible refine ge_int ?_
  | with_reducible refine int_int ?_
  | with_reducible refine eq_int ?_ | with_reducible refine ne_int ?_
  | with_reducible refine len_tup ?_ | with_reducible refine len_lst ?_
  | ((with_reducible show rdIx (.cel _) (.int _) _ _); refine ix_cel (by bv_omega) (by rfl) ?_)
  | ((with_reducible show rdIx (.lst _) (.int _) _ _); refine ix_lst (by rfl) ?_)
  | ((with_reducible show rdIx (.tup _) (.int _) _ _); refine ix_tup (by rfl) ?_)
  | ((with_reducible show rdLen [.cel _] _ _); refine len_cel (by bv_omega) ?_)
  | ((with_reducible show rdMul (.int _) (.int _) _ _); first | refine mul_l (by decide) (by decide) ?_ | refine mul_r (by decide) (by decide) ?_ | refine mul_l (by omega) (by omega) ?_ | refine mul_r (by omega) (by omega) ?_)
  | ((with_reducible show rdDiv (.int _) (.int _) _ _); refine div_int (by first | decide | assumption | omega) (by first | decide | assumption | omega) ?_)
  | ((with_reducible show rdDivmod [.int _, .int _] _ _); refine dm_int (by first | decide | assumption | omega) (by first | decide | assumption | omega) ?_)
  | ((with_reducible show @ite _ (_ = true) _ _ _); first | refine ifYes (by first | with_reducible rfl | exact Bool.not_false | assumption) ?_ | refine ifNo (by first | with_reducible rfl | exact Bool.not_true | assumption) ?_)
  | ((with_reducible show ∃ _, _ ∧ _); refine ⟨_, celL_of (by bv_omega), ?_⟩)
  | ((with_reducible show ∃ _ _ _ _, _ ∧ _ ∧ _ ∧ _ ∧ _); refine ⟨_, _, _, _, rfl, rfl, by bv_omega, by rfl, ?_⟩)
  | ((with_reducible show (_ : Nat) ≤ sizeLine ∧ _); refine ⟨by rw [sizeLine_eq]; exact Nat.le_of_ble_eq_true rfl, ?_⟩))
local macro_rules | `(tactic| infer_instance) => `(tactic| ((repeat symm); try dsimp only))
local macro_rules | `(tactic| ac_rfl) => `(tactic| ((repeat (first | symm | ((with_reducible show rdMod (.int _) (.int _) _ _); refine mod_any (by first | decide | assumption | omega) ?_; intro _ _ _))); try dsimp only))
end R
set_option maxRecDepth 100000
set_option maxHeartbeats 1000000
namespace R
open PySem PySem.Spec PyProof.Rows L2 DL
local macro_rules | `(tactic| bv_omega) => `(tactic| first | assumption | exact mset_same)
local macro_rules | `(tactic| symm) => `(tactic| first
  | ((with_reducible show ∃ _, _ = _ ∧ _); refine ⟨_, rfl, ?_⟩)
  | ((with_reducible show _ = _ ∧ _); refine ⟨rfl, ?_⟩)
  | ((with_reducible show ∃ _ _, _ = _ ∧ _ = _ ∧ _); refine ⟨_, _, rfl, rfl, ?_⟩)
  | ((with_reducible show ∃ _ _, _ = _ ∧ _); refine ⟨_, _, rfl, ?_⟩)
  | ((with_reducible show ∃ _ _ _, _ = _ ∧ _); refine ⟨_, _, _, rfl, ?_⟩)
  | ((with_reducible show (_ ≤ _ ∧ _) ∧ _); refine ⟨by omega, ?_⟩)
  | with_reducible refine add_int ?_ | with_reducible refine sub_int ?_
  | with_reducible refine lt_int ?_ | with_reducible refine le_int ?_ | with_reducible refine gt_int ?_ | with_reducible refine ge_int ?_
  | with_reducible refine int_int ?_
  | with_reducible refine eq_int ?_ | with_reducible refine ne_int ?_
  | with_reducible refine len_tup ?_ | with_reducible refine len_lst ?_
  | ((with_reducible show rdIx (.cel _) (.int _) _ _); refine ix_cel (by bv_omega) (by rfl) ?_)
  | ((with_reducible show rdIx (.lst _) (.int _) _ _); refine ix_lst (by rfl) ?_)
  | ((with_reducible show rdIx (.tup _) (.int _) _ _); refine ix_tup (by rfl) ?_)
  | ((with_reducible show rdLen [.cel _] _ _); refine len_cel (by bv_omega) ?_)
  | ((with_reducible show rdMul (.int _) (.int _) _ _); first | refine mul_l (by decide) (by decide) ?_ | refine mul_r (by decide) (by decide) ?_ | refine mul_l (by omega) (by omega) ?_ | refine mul_r (by omega) (by omega) ?_)
  | ((with_reducible show rdDiv (.int _) (.int _) _ _); refine div_int (by first | decide | assumption | omega) (by first | decide | assumption | omega) ?_)
  | ((with_reducible show rdDivmod [.int _, .int _] _ _); refine dm_int (by first | decide | assumption | omega) (by first | decide | assumption | omega) ?_)
  | ((with_reducible show @ite _ (_ = true) _ _ _); first | refine ifYes (by first | with_reducible rfl | exact Bool.not_false | assumption) ?_ | refine ifNo (by first | with_reducible rfl | exact Bool.not_true | assumption) ?_)
  | ((with_reducible show ∃ _, _ ∧ _); refine ⟨_, celL_of (by bv_omega), ?_⟩)
  | ((with_reducible show ∃ _ _ _ _, _ ∧ _ ∧ _ ∧ _ ∧ _); refine ⟨_, _, _, _, rfl, rfl, by bv_omega, by rfl, ?_⟩)
  | ((with_reducible show (_ : Nat) ≤ sizeLine ∧ _); refine ⟨by rw [sizeLine_eq]; exact Nat.le_of_ble_eq_true rfl, ?_⟩))
local macro_rules | `(tactic| infer_instance) => `(tactic| ((repeat symm); try dsimp only))
local macro_rules | `(tactic| ac_rfl) => `(tactic| ((repeat (first | symm | ((with_reducible show rdMod (.int _) (.int _) _ _); refine mod_any (by first | decide | assumption | omega) ?_; intro _ _ _))); try dsimp only))
/-- arcs in their order that do not meet and are not beside one another -/
structure ArcsOk (size : Int) (ps : List (Int × Int)) : Prop where
  asc : ps.Pairwise (fun a b => a.1 < b.1)
  each : ∀ a ∈ ps, 0 ≤ a.1 ∧ a.1 < size ∧ 1 ≤ a.2 ∧ a.2 < size
  gap : ∀ a ∈ ps, ∀ b ∈ ps, a ≠ b → (b.1 - a.1 - a.2) % size ≠ 0
  all : (ps.map (·.2)).sum < size
theorem mod_same {size a b : Int} (h : a % size = b % size) (h1 : a - b < size) (h2 : b - a < size) : a = b := by
  have e := Int.emod_emod_of_dvd a (Int.dvd_refl size)
  have h3 : (a - b) % size = 0 := by rw [Int.sub_emod, h, Int.sub_self, Int.zero_emod]
  obtain ⟨k, hk⟩ := Int.dvd_of_emod_eq_zero h3
  have : k = 0 := by
    rcases Int.lt_trichotomy k 0 with z | z | z
    · exfalso
      have : size * k ≤ size * (-1) := Int.mul_le_mul_of_nonneg_left (by omega) (by omega)
      omega
    · exact z
    · exfalso
      have : size * 1 ≤ size * k := Int.mul_le_mul_of_nonneg_left (by omega) (by omega)
      omega
  rw [this, Int.mul_zero] at hk
  omega
end R
set_option maxRecDepth 100000
set_option maxHeartbeats 1000000
namespace R
open PySem PySem.Spec PyProof.Rows L2 DL
local macro_rules | `(tactic| bv_omega) => `(tactic| first | assumption | exact mset_same)
local macro_rules | `(tactic| symm) => `(tactic| first
  | ((with_reducible show ∃ _, _ = _ ∧ _); refine ⟨_, rfl, ?_⟩)
  | ((with_reducible show _ = _ ∧ _); refine ⟨rfl, ?_⟩)
  | ((with_reducible show ∃ _ _, _ = _ ∧ _ = _ ∧ _); refine ⟨_, _, rfl, rfl, ?_⟩)
  | ((with_reducible show ∃ _ _, _ = _ ∧ _); refine ⟨_, _, rfl, ?_⟩)
  | ((with_reducible show ∃ _ _ _, _ = _ ∧ _); refine ⟨_, _, _, rfl, ?_⟩)
  | ((with_reducible show (_ ≤ _ ∧ _) ∧ _); refine ⟨by omega, ?_⟩)
  | with_reducible refine add_int ?_ | with_reducible refine sub_int ?_
  | with_reducible refine lt_int ?_ | with_reducible refine le_int ?_ | with_reducible refine gt_int ?_ | with_reducible refine ge_int ?_
  | with_reducible refine int_int ?_
  | with_reducible refine eq_int ?_ | with_reducible refine ne_int ?_
  | with_reducible refine len_tup ?_ | with_reducible refine len_lst ?_
  | ((with_reducible show rdIx (.cel _) (.int _) _ _); refine ix_cel (by bv_omega) (by rfl) ?_)
  | ((with_reducible show rdIx (.lst _) (.int _) _ _); refine ix_lst (by rfl) ?_)
  | ((with_reducible show rdIx (.tup _) (.int _) _ _); refine ix_tup (by rfl) ?_)
  | ((with_reducible show rdLen [.cel _] _ _); refine len_cel (by bv_omega) ?_)
  | ((with_reducible show rdMul (.int _) (.int _) _ _); first | refine mul_l (by decide) (by decide) ?_ | refine mul_r (by decide) (by decide) ?_ | refine mul_l (by omega) (by omega) ?_ | refine mul_r (by omega) (by omega) ?_)
  | ((with_reducible show rdDiv (.int _) (.int _) _ _); refine div_int (by first | decide | assumption | omega) (by first | decide | assumption | omega) ?_)
  | ((with_reducible show rdDivmod [.int _, .int _] _ _); refine dm_int (by first | decide | assumption | omega) (by first | decide | assumption | omega) ?_)
  | ((with_reducible show @ite _ (_ = true) _ _ _); first | refine ifYes (by first | with_reducible rfl | exact Bool.not_false | assumption) ?_ | refine ifNo (by first | with_reducible rfl | exact Bool.not_true | assumption) ?_)
  | ((with_reducible show ∃ _, _ ∧ _); refine ⟨_, celL_of (by bv_omega), ?_⟩)
  | ((with_reducible show ∃ _ _ _ _, _ ∧ _ ∧ _ ∧ _ ∧ _); refine ⟨_, _, _, _, rfl, rfl, by bv_omega, by rfl, ?_⟩)
  | ((with_reducible show (_ : Nat) ≤ sizeLine ∧ _); refine ⟨by rw [sizeLine_eq]; exact Nat.le_of_ble_eq_true rfl, ?_⟩))
local macro_rules | `(tactic| infer_instance) => `(tactic| ((repeat symm); try dsimp only))
local macro_rules | `(tactic| ac_rfl) => `(tactic| ((repeat (first | symm | ((with_reducible show rdMod (.int _) (.int _) _ _); refine mod_any (by first | decide | assumption | omega) ?_; intro _ _ _))); try dsimp only))
/-- arcs that tell which keys -/
def ArcsT (size : Int) (T : Int → Bool) (ps : List (Int × Int)) : Prop := (ps = [(0, size)] ∨ ArcsOk size ps) ∧ ps.length ≤ 200 ∧ ∀ p, 0 ≤ p → p < size → ((∃ a ∈ ps, (p - a.1) % size < a.2) ↔ T p = true)
/-- an arc that no longer one holds -/
structure MaxRun (size : Int) (T : Int → Bool) (a : Int × Int) : Prop where
  lo : 0 ≤ a.1 ∧ a.1 < size
  many : 1 ≤ a.2 ∧ a.2 < size
  ahead : T ((a.1 - 1) % size) = false
  behind : T ((a.1 + a.2) % size) = false
  each : ∀ j, 0 ≤ j → j < a.2 → T ((a.1 + j) % size) = true
def ArcsV (size : Int) (T : Int → Bool) (ps : List (Int × Int)) : Prop := ArcsT size T ps ∧ (ps = [(0, size)] ∨ ∀ a ∈ ps, MaxRun size T a)
theorem run_uniq {size : Int} {T : Int → Bool} {a b : Int × Int} (s1 : 1 ≤ size) (A : MaxRun size T a) (B : MaxRun size T b) (h : (a.1 - b.1) % size < b.2) : a = b := by
  have d0 := Int.emod_nonneg (a.1 - b.1) (show size ≠ 0 by omega)
  have e1 := Int.emod_add_mul_ediv (a.1 - b.1) size
  have he : (a.1 - b.1) % size = 0 := by
    by_cases z : (a.1 - b.1) % size = 0
    · exact z
    · exfalso
      have h1 := B.each ((a.1 - b.1) % size - 1) (by omega) (by omega)
      have e2 : b.1 + ((a.1 - b.1) % size - 1) = (a.1 - 1) + size * (-((a.1 - b.1) / size)) := by rw [Int.mul_neg]; omega
      rw [e2, Int.add_mul_emod_self_left, A.ahead] at h1
      cases h1
  have e3 : a.1 = b.1 := by
    have A1 := A.lo
    have B1 := B.lo
    refine mod_same (size := size) ?_ (by omega) (by omega)
    have := Int.emod_emod_of_dvd (a.1 - b.1) (Int.dvd_refl size)
    have h3 : a.1 = b.1 + (a.1 - b.1) := by omega
    rw [h3, Int.add_emod, he, Int.add_zero, Int.emod_emod_of_dvd _ (Int.dvd_refl _)]
  have e4 : a.2 = b.2 := by
    have A2 := A.many
    have B2 := B.many
    rcases Int.lt_trichotomy a.2 b.2 with w | w | w
    · exfalso
      have h1 := B.each a.2 (by omega) w
      rw [← e3, A.behind] at h1
      cases h1
    · exact w
    · exfalso
      have h1 := A.each b.2 (by omega) w
      rw [e3, B.behind] at h1
      cases h1
  exact Prod.ext e3 e4
/-- just the arcs of these keys -/
def ArcsW (size : Int) (T : Int → Bool) (ps : List (Int × Int)) : Prop := ((∀ p, 0 ≤ p → p < size → T p = true) ∧ ps = [(0, size)]) ∨ (¬ (∀ p, 0 ≤ p → p < size → T p = true) ∧ ps.Pairwise (fun a b => a.1 < b.1) ∧ ∀ a, a ∈ ps ↔ MaxRun size T a)
theorem ArcsV.w {size : Int} {T : Int → Bool} {ps : List (Int × Int)} (s1 : 1 ≤ size) (h : ArcsV size T ps) : ArcsW size T ps := by
  obtain ⟨⟨h1, _, h3⟩, h4⟩ := h
  by_cases al : ∀ p, 0 ≤ p → p < size → T p = true
  · left
    refine ⟨al, ?_⟩
    rcases h4 with e | hm
    · exact e
    · exfalso
      obtain ⟨a, ha, _⟩ := (h3 0 (by omega) (by omega)).mpr (al 0 (by omega) (by omega))
      have := (hm a ha).ahead
      rw [al _ (Int.emod_nonneg _ (by omega)) (Int.emod_lt_of_pos _ (by omega))] at this
      cases this
  · right
    have nf : ps ≠ [(0, size)] := fun e => al fun p p0 p1 => (h3 p p0 p1).mp ⟨(0, size), by rw [e]; simp, Int.emod_lt_of_pos _ (by omega)⟩
    have hm := h4.resolve_left nf
    refine ⟨al, (h1.resolve_left nf).asc, fun a => ⟨hm a, fun A => ?_⟩⟩
    have h5 := A.each 0 (by omega) (by have := A.many; omega)
    rw [Int.add_zero, Int.emod_eq_of_lt A.lo.1 A.lo.2] at h5
    obtain ⟨b, hb, hlt⟩ := (h3 a.1 A.lo.1 A.lo.2).mpr h5
    rw [run_uniq s1 A (hm b hb) hlt]
    exact hb
theorem ArcsW.len {size : Int} {T : Int → Bool} {ps : List (Int × Int)} (h : ArcsW size T ps) (s1 : 1 ≤ size) : (ps.length : Int) ≤ size ∧ ∀ a ∈ ps, 0 ≤ a.1 ∧ a.1 < size ∧ 1 ≤ a.2 ∧ a.2 ≤ size := by
  rcases h with ⟨_, rfl⟩ | ⟨_, b, c⟩
  · refine ⟨by simp; omega, fun a ha => ?_⟩
    rw [List.mem_singleton.mp ha]
    exact ⟨Int.le_refl _, by dsimp only; omega, by dsimp only; omega, Int.le_refl _⟩
  · have hb : ∀ a ∈ ps, 0 ≤ a.1 ∧ a.1 < size ∧ 1 ≤ a.2 ∧ a.2 ≤ size := fun a ha => by
      have A := (c a).mp ha
      exact ⟨A.lo.1, A.lo.2, A.many.1, by have := A.many.2; omega⟩
    refine ⟨?_, hb⟩
    have hn : (ps.map fun a => a.1.toNat).Nodup := by
      unfold List.Nodup
      rw [List.pairwise_map]
      refine List.Pairwise.imp_of_mem (R := fun a b : Int × Int => a.1 < b.1) (fun {x y} hx hy h e => ?_) b
      have := hb x hx
      have := hb y hy
      omega
    have := nodup_len (ys := List.range size.toNat) hn fun x hx => by
      obtain ⟨a, ha, rfl⟩ := List.mem_map.mp hx
      have := hb a ha
      exact List.mem_range.mpr (by omega)
    rw [List.length_map, List.length_range] at this
    omega
theorem Sh.bool (b : Bool) : Sh 20 0 (.bool b) := by
  cases b
  · exact ⟨by decide +kernel, by decide +kernel, by decide +kernel, by decide +kernel⟩
  · exact ⟨by decide +kernel, by decide +kernel, by decide +kernel, by decide +kernel⟩
end R
set_option maxRecDepth 100000
set_option maxHeartbeats 4000000
namespace DL
open PySem PySem.Spec PyProof.Rows L2
end DL
set_option maxRecDepth 100000
set_option maxHeartbeats 1000000
namespace R
open PySem PySem.Spec PyProof.Rows L2 DL
local macro_rules | `(tactic| bv_omega) => `(tactic| first | assumption | exact mset_same)
local macro_rules | `(tactic| symm) => `(tactic| first
  | ((with_reducible show ∃ _, _ = _ ∧ _); refine ⟨_, rfl, ?_⟩)
  | ((with_reducible show _ = _ ∧ _); refine ⟨rfl, ?_⟩)
  | ((with_reducible show ∃ _ _, _ = _ ∧ _ = _ ∧ _); refine ⟨_, _, rfl, rfl, ?_⟩)
  | ((with_reducible show ∃ _ _, _ = _ ∧ _); refine ⟨_, _, rfl, ?_⟩)
  | ((with_reducible show ∃ _ _ _, _ = _ ∧ _); refine ⟨_, _, _, rfl, ?_⟩)
  | ((with_reducible show (_ ≤ _ ∧ _) ∧ _); refine ⟨by omega, ?_⟩)
  | with_reducible refine add_int ?_ | with_reducible refine sub_int ?_
  | with_reducible refine lt_int ?_ | with_reducible refine le_int ?_ | with_reducible refine gt_int ?_ | with_reducible refine ge_int ?_
  | with_reducible refine int_int ?_
  | with_reducible refine eq_int ?_ | with_reducible refine ne_int ?_
  | with_reducible refine len_tup ?_ | with_reducible refine len_lst ?_
  | ((with_reducible show rdIx (.cel _) (.int _) _ _); refine ix_cel (by bv_omega) (by rfl) ?_)
  | ((with_reducible show rdIx (.lst _) (.int _) _ _); refine ix_lst (by rfl) ?_)
  | ((with_reducible show rdIx (.tup _) (.int _) _ _); refine ix_tup (by rfl) ?_)
  | ((with_reducible show rdLen [.cel _] _ _); refine len_cel (by bv_omega) ?_)
  | ((with_reducible show rdMul (.int _) (.int _) _ _); first | refine mul_l (by decide) (by decide) ?_ | refine mul_r (by decide) (by decide) ?_ | refine mul_l (by omega) (by omega) ?_ | refine mul_r (by omega) (by omega) ?_)
  | ((with_reducible show rdDiv (.int _) (.int _) _ _); refine div_int (by first | decide | assumption | omega) (by first | decide | assumption | omega) ?_)
  | ((with_reducible show rdDivmod [.int _, .int _] _ _); refine dm_int (by first | decide | assumption | omega) (by first | decide | assumption | omega) ?_)
  | ((with_reducible show @ite _ (_ = true) _ _ _); first | refine ifYes (by first | with_reducible rfl | exact Bool.not_false | assumption) ?_ | refine ifNo (by first | with_reducible rfl | exact Bool.not_true | assumption) ?_)
  | ((with_reducible show ∃ _, _ ∧ _); refine ⟨_, celL_of (by bv_omega), ?_⟩)
  | ((with_reducible show ∃ _ _ _ _, _ ∧ _ ∧ _ ∧ _ ∧ _); refine ⟨_, _, _, _, rfl, rfl, by bv_omega, by rfl, ?_⟩)
  | ((with_reducible show (_ : Nat) ≤ sizeLine ∧ _); refine ⟨by rw [sizeLine_eq]; exact Nat.le_of_ble_eq_true rfl, ?_⟩))
local macro_rules | `(tactic| infer_instance) => `(tactic| ((repeat symm); try dsimp only))
local macro_rules | `(tactic| ac_rfl) => `(tactic| ((repeat (first | symm | ((with_reducible show rdMod (.int _) (.int _) _ _); refine mod_any (by first | decide | assumption | omega) ?_; intro _ _ _))); try dsimp only))
theorem pw_rising : ∀ {p : Str} {l : List Str}, (p :: l).Pairwise (fun a b => ¬ b.cps.toList < a.cps.toList) → PyProof.Rows.risingS p l = true
  | p, [], _ => rfl
  | p, x :: r, h => by
    obtain ⟨h1, h2⟩ := List.pairwise_cons.mp h
    show (!PySem.Spec.ltCps x.cps.toList p.cps.toList && PyProof.Rows.risingS x r) = true
    rw [Bool.and_eq_true, PyProof.Rows.ltCps_eq]
    exact ⟨by simpa using h1 x List.mem_cons_self, pw_rising h2⟩
theorem pw_sorted : ∀ {l : List Str}, l.Pairwise (fun a b => ¬ b.cps.toList < a.cps.toList) → PyProof.Rows.sortedS l = true
  | [], _ => rfl
  | _ :: _, h => pw_rising h
end R
set_option maxRecDepth 100000
namespace R
open PySem PySem.Spec PyProof.Rows L2 DL
end R
set_option maxRecDepth 100000
set_option maxHeartbeats 1000000
namespace R
open PySem PySem.Spec PyProof.Rows L2 DL
local macro_rules | `(tactic| bv_omega) => `(tactic| first | assumption | exact mset_same)
local macro_rules | `(tactic| symm) => `(tactic| first
  | ((with_reducible show ∃ _, _ = _ ∧ _); refine ⟨_, rfl, ?_⟩)
  | ((with_reducible show _ = _ ∧ _); refine ⟨rfl, ?_⟩)
  | ((with_reducible show ∃ _ _, _ = _ ∧ _ = _ ∧ _); refine ⟨_, _, rfl, rfl, ?_⟩)
  | ((with_reducible show ∃ _ _, _ = _ ∧ _); refine ⟨_, _, rfl, ?_⟩)
  | ((with_reducible show ∃ _ _ _, _ = _ ∧ _); refine ⟨_, _, _, rfl, ?_⟩)
  | ((with_reducible show (_ ≤ _ ∧ _) ∧ _); refine ⟨by omega, ?_⟩)
  | with_reducible refine add_int ?_ | with_reducible refine sub_int ?_
  | with_reducible refine lt_int ?_ | with_reducible refine le_int ?_ | with_reducible refine gt_int ?_ | with_reducible refine ge_int ?_
  | with_reducible refine int_int ?_
  | with_reducible refine eq_int ?_ | with_reducible refine ne_int ?_
  | with_reducible refine len_tup ?_ | with_reducible refine len_lst ?_
  | ((with_reducible show rdIx (.cel _) (.int _) _ _); refine ix_cel (by bv_omega) (by rfl) ?_)
  | ((with_reducible show rdIx (.lst _) (.int _) _ _); refine ix_lst (by rfl) ?_)
  | ((with_reducible show rdIx (.tup _) (.int _) _ _); refine ix_tup (by rfl) ?_)
  | ((with_reducible show rdLen [.cel _] _ _); refine len_cel (by bv_omega) ?_)
  | ((with_reducible show rdMul (.int _) (.int _) _ _); first | refine mul_l (by decide) (by decide) ?_ | refine mul_r (by decide) (by decide) ?_ | refine mul_l (by omega) (by omega) ?_ | refine mul_r (by omega) (by omega) ?_)
  | ((with_reducible show rdDiv (.int _) (.int _) _ _); refine div_int (by first | decide | assumption | omega) (by first | decide | assumption | omega) ?_)
  | ((with_reducible show rdDivmod [.int _, .int _] _ _); refine dm_int (by first | decide | assumption | omega) (by first | decide | assumption | omega) ?_)
  | ((with_reducible show @ite _ (_ = true) _ _ _); first | refine ifYes (by first | with_reducible rfl | exact Bool.not_false | assumption) ?_ | refine ifNo (by first | with_reducible rfl | exact Bool.not_true | assumption) ?_)
  | ((with_reducible show ∃ _, _ ∧ _); refine ⟨_, celL_of (by bv_omega), ?_⟩)
  | ((with_reducible show ∃ _ _ _ _, _ ∧ _ ∧ _ ∧ _ ∧ _); refine ⟨_, _, _, _, rfl, rfl, by bv_omega, by rfl, ?_⟩)
  | ((with_reducible show (_ : Nat) ≤ sizeLine ∧ _); refine ⟨by rw [sizeLine_eq]; exact Nat.le_of_ble_eq_true rfl, ?_⟩))
local macro_rules | `(tactic| infer_instance) => `(tactic| ((repeat symm); try dsimp only))
local macro_rules | `(tactic| ac_rfl) => `(tactic| ((repeat (first | symm | ((with_reducible show rdMod (.int _) (.int _) _ _); refine mod_any (by first | decide | assumption | omega) ?_; intro _ _ _))); try dsimp only))
section
variable {α : Type} {ok : Mem → Prop} {g : GD} {t : DT} {de : DE} {env : EnvD} {q : QD} {c : Addr} {M : Mem}
theorem lc_kept (emb : α → D) (f : α → D) {xs : List α} (hc : M c = none) (hn : xs.length ≤ sizeLine) (hok : ∀ M', Kept M M' → ok M')
    (hs : ∀ x ∈ xs, ∀ M1, Kept M M1 → ∀ (K : QD) (K2 : Mem → Prop), (∀ M3, Kept M1 M3 → K (f x) M3) → g (emb x) env M1 (fun env' M' => t env' M' (fun b M2 => if b = true then de env' M2 K noX else K2 M2) noX) (fun _ => noX))
    (hq : ∀ M', Kept M M' → q (.lst (xs.map f)) M') : lcW ok g t de env q c (xs.map emb) (mset M c (.ls [])) := by
  refine lc_lst (fun i M' => Kept M M' ∧ M' c = some (.ls ((xs.take i).map f))) ?_ ?_ _ ⟨Kept.new hc, by rw [List.take_zero]; exact mset_same⟩
  · rintro M' ⟨hK, hC⟩
    rw [List.length_map, List.take_length] at hC
    exact ⟨hok M' hK, _, hC, hq _ (hK.del hc)⟩
  · rintro i x M' hx ⟨hK, hC⟩ nx hnx
    rw [List.getElem?_map] at hx
    obtain ⟨y, hy, rfl⟩ := omap hx
    have hi := (List.getElem?_eq_some_iff.mp hy).1
    refine ⟨hok M' hK, hs y (List.mem_of_getElem? hy) M' hK _ _ fun M3 hK3 => ?_⟩
    refine ⟨_, hK3 _ _ hC, by rw [List.length_map, List.length_take]; omega, hnx _ ⟨(hK.trans hK3).put hc, ?_⟩⟩
    rw [mset_same, List.take_add_one, hy, List.map_append]; rfl
end
theorem lock_back {M M' : Mem} {a : Addr} {o : Obj} {rs : List (Key × V)} {ds : List (Key × D)} (hA : M a = some (.dc ds)) (h : Kept (mset M a (.fd o rs ds)) M') : M' a = some (.fd o rs ds) ∧ Kept M (mset M' a (.dc ds)) := by
  refine ⟨h _ _ mset_same, fun d y hd => ?_⟩
  by_cases e : d = a
  · subst e; rw [hA] at hd; rw [mset_same]; exact hd
  · rw [mset_ne e]; exact h d y (by rw [mset_ne e]; exact hd)
theorem py_tis (g : Str → Int) : ∀ ys : List Str, toPys (ys.map fun x => (.tup [.str x, .int (g x)] : D)) = some (ys.map fun x => PyData.tuple [.str x, .int (g x)])
  | [] => rfl
  | y :: l => by
    show (match toPy (.tup [.str y, .int (g y)]), toPys (l.map fun x => (.tup [.str x, .int (g x)] : D)) with | some p, some ps => some (p :: ps) | _, _ => none) = _
    rw [py_tis g l]; rfl
theorem py_tisT {g : Str → Int} {ys : List Str} {M : Mem} : pyOf M (.tup (ys.map fun x => (.tup [.str x, .int (g x)] : D))) = some (.tuple (ys.map fun x => PyData.tuple [.str x, .int (g x)])) := by
  show (toPys _).map PyData.tuple = _
  rw [py_tis]; rfl
theorem sh_tis {g : Str → Int} {ys : List Str} (hl : ys.length ≤ 12) (hn : ∀ y ∈ ys, nameB y = true) (hg : ∀ y ∈ ys, 0 ≤ g y ∧ g y ≤ 1000000000000000000) : showOk (.tuple (ys.map fun x => PyData.tuple [.str x, .int (g x)])) := by
  have h19 : (10 : Int) ^ 19 = 10000000000000000000 := by decide
  refine (Sh.tuple (m := 12) (n := 200) (k := 1) (fun x hx => ?_) (by rw [List.length_map]; exact hl)).ok (by decide) (by decide)
  obtain ⟨y, hy, rfl⟩ := List.mem_map.mp hx
  have := hg y hy
  refine (Sh.tuple (m := 2) (n := 82) (k := 0) (fun z hz => ?_) (by simp)).mono (by decide) (by decide)
  simp only [List.mem_cons, List.not_mem_nil, or_false] at hz
  rcases hz with rfl | rfl
  · exact Sh.str (hn y hy)
  · exact (Sh.int (by omega) (by omega)).mono (by decide) (by decide)
theorem py_intL {l : List Int} {M : Mem} : pyOf M (.lst (l.map D.int)) = some (.list (l.map PyData.int)) := by
  show (toPys (l.map D.int)).map PyData.list = _
  rw [toPys_int]; rfl
theorem sh_intL {l : List Int} (hl : l.length ≤ 12) (hg : ∀ y ∈ l, 0 ≤ y ∧ y ≤ 1000000000000000000) : showOk (.list (l.map PyData.int)) := by
  have h19 : (10 : Int) ^ 19 = 10000000000000000000 := by decide
  refine (Sh.list (m := 12) (n := 20) (k := 0) (fun x hx => ?_) (by rw [List.length_map]; exact hl)).ok (by decide) (by decide)
  obtain ⟨y, hy, rfl⟩ := List.mem_map.mp hx
  have := hg y hy
  exact Sh.int (by omega) (by omega)
end R
set_option maxRecDepth 100000
set_option maxHeartbeats 4000000
namespace DL
open PySem PySem.Spec PyProof.Rows L2
def IsPairT (h : Heap) (v : Value) (x : PySem.Str) (z : Int) : Prop := ∃ (a : Addr) (o : Obj) (t u : Tok) (n : Nat), v = .ref a ∧ h.get? a = some o ∧ o.cls = .type "tuple" ∧ o.data = .seq #[.str x t, .int z u] n
theorem IsPairT.keeps {h h' : Heap} {v : Value} {x : PySem.Str} {z : Int} (p : IsPairT h v x z) (k : ∀ b o, h.get? b = some o → o.cls = .type "tuple" → h'.get? b = some o) : IsPairT h' v x z := by
  obtain ⟨a, o, t, u, n, e, ho, hc, hd⟩ := p
  exact ⟨a, o, t, u, n, e, k a o ho hc, hc, hd⟩
section
open SrtO Srt
variable {prog : Program} {w : World} {A : Around} {E : Value → Shared → Prop} {s : Shared}
def lexT (p q : PySem.Str × Int) : Bool := if p.1 = q.1 then decide (p.2 < q.2) else decide (p.1.cps.toList < q.1.cps.toList)
theorem lexT_iff {p q : PySem.Str × Int} : lexT p q = true ↔ p.1.cps.toList < q.1.cps.toList ∨ (p.1 = q.1 ∧ p.2 < q.2) := by
  unfold lexT
  by_cases e : p.1 = q.1
  · rw [if_pos e, decide_eq_true_eq]
    constructor
    · exact fun h => .inr ⟨e, h⟩
    · rintro (h | h)
      · rw [e] at h; exact absurd h (List.lt_irrefl _)
      · exact h.2
  · rw [if_neg e, decide_eq_true_eq]
    constructor
    · exact .inl
    · rintro (h | h)
      · exact h
      · exact absurd h.1 e
theorem lexT_no {p q : PySem.Str × Int} : lexT p q = false ↔ ¬ (p.1.cps.toList < q.1.cps.toList ∨ (p.1 = q.1 ∧ p.2 < q.2)) := by
  rw [← lexT_iff]
  cases lexT p q <;> simp
theorem swo_lexT (k : Value → PySem.Str × Int) : Swo fun v u => lexT (k v) (k u) := by
  refine ⟨fun x y h => ?_, fun x y z h1 h2 => ?_⟩
  · have a := lexT_iff.mp h
    refine lexT_no.mpr ?_
    rintro (b | b)
    · rcases a with a | a
      · exact absurd b (List.lt_asymm a)
      · rw [a.1] at b; exact absurd b (List.lt_irrefl _)
    · rcases a with a | a
      · rw [b.1] at a; exact absurd a (List.lt_irrefl _)
      · omega
  · have a := lexT_no.mp h1
    have b := lexT_no.mp h2
    refine lexT_no.mpr ?_
    have a1 : (k x).1.cps.toList ≤ (k y).1.cps.toList := List.not_lt.mp fun z => a (.inl z)
    have b1 : (k y).1.cps.toList ≤ (k z).1.cps.toList := List.not_lt.mp fun z => b (.inl z)
    rintro (c | c)
    · exact absurd c (List.not_lt.mpr (List.le_trans a1 b1))
    · have e0 : (k x).1 = (k y).1 := by
        have h3 : (k y).1.cps.toList ≤ (k x).1.cps.toList := by rw [← c.1]; exact b1
        have := List.le_antisymm a1 h3
        have e2 := Array.toList_inj.mp this
        cases hx : (k x).1; cases hy : (k y).1; rw [hx, hy] at e2; simp at e2; rw [e2]
      have a2 : ¬ (k y).2 < (k x).2 := fun z => a (.inr ⟨e0.symm, z⟩)
      have b2 : ¬ (k z).2 < (k y).2 := fun z => b (.inr ⟨by rw [c.1, e0], z⟩)
      omega
theorem pairT_cmp {vs : List Value} {k : Value → PySem.Str × Int} (hp : ∀ v ∈ vs, IsPairT s.heap v (k v).1 (k v).2) : Cmp prog w A s (tuples' true) (fun p => p.1 ∈ vs) (lt2 fun v u => lexT (k v) (k u)) := by
  intro p q hm hm'
  have h1 := hp _ hm
  have h2 := hp _ hm'
  show wpAny (model prog w) A (keyLt' (tuples' true) p.1 q.1) (fun r s' => s' = s ∧ r = lexT (k p.1) (k q.1)) (fun _ _ => False) s
  unfold lexT
  generalize (k p.1).1 = x at h1 ⊢
  generalize (k p.1).2 = y at h1 ⊢
  generalize (k q.1).1 = x' at h2 ⊢
  generalize (k q.1).2 = y' at h2 ⊢
  obtain ⟨a, o, t, u, n, e, ho, hc, hd⟩ := h1
  obtain ⟨a', o', t', u', n', e', ho', hc', hd'⟩ := h2
  rw [e, e']
  refine PySem.W.kat_lt ho hd ho' hd' ?_
  show PySem.W.KatLex prog w A true (decide (2 < 2)) _ [(.str x t, .str x' t'), (.int y u, .int y' u')] 0 s
  refine PySem.W.kat_cons (SeqAt.EqAt.str_str x t x' t' prog w _ _ ?_)
  refine PySem.W.kat_go (fun e1 => ?_) (fun e1 => ?_)
  · have ex : x = x' := by simpa using e1
    refine PySem.W.kat_yes (PySem.W.kat_cons (SeqAt.EqAt.int_int y u y' u' prog w _ _ ?_))
    refine PySem.W.kat_go (fun e2 => ?_) (fun e2 => ?_)
    · have ey : y = y' := by simpa using e2
      have e3 : (if x = x' then decide (y < y') else decide (x.cps.toList < x'.cps.toList)) = false := by
        rw [if_pos ex, ey]
        exact decide_eq_false (Int.lt_irrefl _)
      exact PySem.W.kat_yes (PySem.W.kat_nil ⟨rfl, e3.symm⟩)
    · have e3 : (if x = x' then decide (y < y') else decide (x.cps.toList < x'.cps.toList)) = decide (y < y') := if_pos ex
      refine PySem.W.kat_no (PySem.W.kat_one _ _ (PyProof.Rows.lt_int ?_))
      exact (show s = s ∧ decide (y < y') = (if x = x' then decide (y < y') else decide (x.cps.toList < x'.cps.toList)) from ⟨rfl, e3.symm⟩)
  · have ex : ¬ x = x' := by simpa using e1
    have e3 : (if x = x' then decide (y < y') else decide (x.cps.toList < x'.cps.toList)) = decide (x.cps.toList < x'.cps.toList) := if_neg ex
    exact PySem.W.kat_no (oneLt_str ⟨rfl, e3.symm⟩)
theorem firstsT {h : Heap} : ∀ {vs : List Value}, (∀ v ∈ vs, ∃ x y, IsPairT h v x y) → ∃ fs : List Value, PySem.W.KatTups h vs fs ∧ fs.length = vs.length ∧ ∀ f ∈ fs, ∃ x t, f = Value.str x t
  | [], _ => ⟨[], PySem.W.KatTups.nil, rfl, fun _ hm => by simp at hm⟩
  | v :: vs, hp => by
    obtain ⟨fs, h1, h2, h3⟩ := firstsT (vs := vs) fun v' hm => hp v' (List.mem_cons_of_mem _ hm)
    obtain ⟨x, y, a, o, t, u, n, e, ho, hc, hd⟩ := hp v (List.mem_cons_self ..)
    subst e
    refine ⟨.str x t :: fs, PySem.W.KatTups.cons ho hc hd rfl h1, by rw [List.length_cons, List.length_cons, h2], fun f hm => ?_⟩
    rcases List.mem_cons.mp hm with rfl | hm
    · exact ⟨x, t, rfl⟩
    · exact h3 f hm
theorem pairT_sortable {a : Addr} {vs : List Value} {k : Value → PySem.Str × Int} (h0 : 0 < vs.length) (hp : ∀ v ∈ vs, IsPairT s.heap v (k v).1 (k v).2) (ha : ∀ o, s.heap.get? a = some o → o.cls ≠ .type "tuple") : SortableO prog w A s a vs fun v u => lexT (k v) (k u) := by
  intro h' keep
  have hp' : ∀ v ∈ vs, IsPairT h' v (k v).1 (k v).2 := fun v hm => (hp v hm).keeps fun b o e c => keep b o (fun z => by subst z; exact ha o e c) e
  obtain ⟨fs, h1, h2, h3⟩ := firstsT fun v hm => ⟨_, _, hp' v hm⟩
  refine ⟨tuples' true, fun Q E hq => ?_, pairT_cmp hp'⟩
  refine PySem.W.kat_kind (T := .type "str") h1 (by omega) (fun f hm => ?_) (by rfl) ?_
  · obtain ⟨x, t, rfl⟩ := h3 f hm
    exact PySem.W.Looks.now
  · have e : (Value.type "str" != Value.type "tuple") = true := by first | decide +kernel | rfl | decide
    rw [e]
    exact hq
theorem sorted_pairT {l : Addr} {vs : List Value} {k : Value → PySem.Str × Int} {Q : Value → Shared → Prop} (hl : s.heap.IsList l vs.toArray) (hz : vs.length ≤ sizeLine) (hp : ∀ v ∈ vs, IsPairT s.heap v (k v).1 (k v).2)
    (h : ∀ (h' : Heap) (d : Addr) (out : List Value), Srtd (fun v u => lexT (k v) (k u)) out → Stb (fun v u => lexT (k v) (k u)) out vs → (∀ b o, s.heap.get? b = some o → h'.get? b = some o) → s.heap.objs.size ≤ d → (∃ n, h'.get? d = some (seqObj "list" out.toArray n)) → Q (.ref d) { s with heap := h' }) :
    wpAny (model prog w) A (call (.builtin "sorted") [.ref l]) Q E s := by
  refine sorted_ord (swo_lexT k) hl hz (fun h2 h₁ a ha kk => ?_) fun out hs hb => ?_
  · refine pairT_sortable (s := { s with heap := h₁ }) (by omega) (fun v hm => (hp v hm).keeps fun b o e _ => (kk b o e).2) fun o e => ?_
    have e' : some o = some (seqObj "list" vs.toArray 0) := e.symm.trans ha
    cases e'
    intro c
    exact absurd (Value.type.inj c) (by decide)
  · exact h _ _ out hs hb (fun b o e => sortedAll_old e) (Nat.le_succ _) (sortedAll_at s.heap vs out.toArray)
end
def tiAt (K : PySem.W.Frag) (H : Hp) (v : V) (p : PySem.Str × Int) : Prop := ∃ t, v = .ref t ∧ SqT K H t [.str p.1, .int p.2]
def rSortTI (K : PySem.W.Frag) : List V → Hp → VK → Prop := fun vs H Q => ∃ (a : Addr) (xs : List V), vs = [V.ref a] ∧ SqL K H a xs ∧ (∀ x ∈ xs, ∃ p, tiAt K H x p) ∧
  ∀ (ys : List V) (p : Addr), ys.Pairwise (fun x y => ∀ p q : PySem.Str × Int, tiAt K H x p → tiAt K H y q → lexT q p = false) → ys.Perm xs → H p = none → Q (.ref p) (upd H p (.lst ys))
section
variable {X : Cx} {W : WX}
open Classical in
theorem cr_sortTI : CallR X (.builtin "sorted") (rSortTI X.K) := by
  intro pins s σ H vs us Q I r h
  obtain ⟨a, xs, rfl, hs, hx, q⟩ := h
  let g : V → PySem.Str × Int := fun v => if e : ∃ p, tiAt X.K H v p then e.choose else (default, 0)
  have gok : ∀ v p, tiAt X.K H v p → g v = p := fun v p hp => by
    have e : ∃ p, tiAt X.K H v p := ⟨p, hp⟩
    have e1 : g v = e.choose := dif_pos e
    obtain ⟨t, rfl, q1⟩ := hp
    obtain ⟨t', e2, q2⟩ := e.choose_spec
    cases e2
    have z := I.tuple_inj q1 q2
    rw [e1]
    simp only [List.cons.injEq, V.int.injEq, V.str.injEq, and_true] at z
    exact Prod.ext z.1.symm z.2.symm
  obtain ⟨its, rv, hl, hz⟩ := I.list hs
  obtain ⟨u, rfl, ru⟩ := vals1 r
  obtain rfl : u = Value.ref a := ru
  obtain ⟨e1, e2⟩ := refs_back rv fun x m => by
    obtain ⟨p, t, e, _⟩ := hx x m
    exact ⟨t, e⟩
  have mem : ∀ v ∈ its, backV v ∈ xs := fun v hv => by rw [e1]; exact List.mem_map.mpr ⟨v, hv, rfl⟩
  have gat : ∀ v ∈ xs, tiAt X.K H v (g v) := fun v hv => by
    obtain ⟨p, hp⟩ := hx v hv
    rw [gok v p hp]; exact hp
  refine sorted_pairT (k := fun u => g (backV u)) hl.isList (by rw [← rv.length]; exact hz) (fun v hv => ?_) fun h' d out h1 h2 kp hd hn => ?_
  · obtain ⟨t, rfl⟩ := e2 v hv
    obtain ⟨t', et, ht⟩ := gat _ (mem _ hv)
    cases et
    obtain ⟨its2, rv2, ⟨o, ho, hc, n, hdt⟩, _⟩ := I.tuple ht
    obtain ⟨u1, u2, rfl, r1, r2⟩ := vals2 rv2
    obtain ⟨t1, rfl⟩ := r1
    obtain ⟨t2, rfl⟩ := r2
    exact ⟨t, o, t1, t2, n, rfl, ho, hc, hdt⟩
  · have h3 : ∀ u ∈ out, ∃ a, u = Value.ref a := fun u hu => e2 u (h2.perm.mem_iff.mp hu)
    obtain ⟨n, hn⟩ := hn
    have hb : (out.map backV).Perm xs := by rw [e1]; exact h2.perm.map backV
    refine ⟨.ref d, upd H d (.lst (out.map backV)), I.laid (t' := s.toks) kp hd ⟨?_, out, n, vals_back h3, hn⟩, rfl, q _ d ?_ hb (I.hok.fresh hd)⟩
    · rw [hb.length_eq]
      exact hz
    · rw [List.pairwise_map]
      exact h1.imp fun h p q hp hq => by
        rw [← gok _ p hp, ← gok _ q hq]
        exact h
/-- one before the other, as tuples are compared -/
def tiLe (a b : PySem.Str × Int) : Prop := ¬ b.1.cps.toList < a.1.cps.toList
theorem ti_le {p q : PySem.Str × Int} (h : lexT q p = false) : tiLe p q := fun z => lexT_no.mp h (.inl z)
def tiD (p : PySem.Str × Int) : D := .tup [.str p.1, .int p.2]
theorem dn_ti {K : PySem.W.Frag} {H : Hp} {v : V} {p : PySem.Str × Int} (h : Dn K H v (tiD p)) : tiAt K H v p := by
  cases h with
  | tup q r =>
    obtain ⟨a, b, e, ra, rb⟩ := dnl2 r
    subst e
    rw [ra.inv_str, rb.inv_int] at q
    exact ⟨_, rfl, q⟩
theorem map_tis {ds : List D} {ps : List (PySem.Str × Int)} (h : ds.Perm (ps.map tiD)) : ∃ ps' : List (PySem.Str × Int), ps'.Perm ps ∧ ds = ps'.map tiD := by
  have hh : ∃ l, ds = List.map tiD l := by
    have inj : ∀ d ∈ ds, ∃ p, d = tiD p := fun d hd => by
      obtain ⟨p, _, e⟩ := List.mem_map.mp (h.mem_iff.mp hd)
      exact ⟨p, e.symm⟩
    clear h
    induction ds with
    | nil => exact ⟨[], rfl⟩
    | cons d ds ih =>
      obtain ⟨l, e⟩ := ih fun x hx => inj x (List.mem_cons_of_mem _ hx)
      obtain ⟨p, e2⟩ := inj d List.mem_cons_self
      exact ⟨p :: l, by rw [e2, e]; rfl⟩
  obtain ⟨l, e⟩ := hh
  refine ⟨l, ?_, e⟩
  rw [e] at h
  let f : D → PySem.Str × Int := fun d => match d with | .tup [.str i, .int z] => (i, z) | _ => (default, 0)
  have := h.map f
  rw [List.map_map, List.map_map] at this
  have ef : (f ∘ tiD) = id := rfl
  rwa [ef, List.map_id, List.map_id] at this
theorem ti_pw {K : PySem.W.Frag} {H : Hp} {R : V → V → Prop} {T : PySem.Str × Int → PySem.Str × Int → Prop} (hT : ∀ x y p q, Dn K H x (tiD p) → Dn K H y (tiD q) → R x y → T p q) : ∀ {vs : List V} {ps : List (PySem.Str × Int)}, DnL K H vs (ps.map tiD) → vs.Pairwise R → ps.Pairwise T
  | _, [], _, _ => .nil
  | _, p :: ps, .cons a r, .cons h1 h2 => by
    refine .cons (fun q hq => ?_) (ti_pw hT r h2)
    obtain ⟨n, hn⟩ := List.getElem?_of_mem hq
    obtain ⟨v, hv, rv⟩ := r.get (i := n) (d := tiD q) (by rw [List.getElem?_map, hn]; rfl)
    exact hT _ _ _ _ a rv (h1 _ (List.mem_of_getElem? hv))
def rdSortTI : RDL := fun ds M q => ∃ (d : D) (ps : List (PySem.Str × Int)), ds = [d] ∧ lsqOf M d = some (ps.map tiD) ∧ ∀ ps' : List (PySem.Str × Int), ps'.Perm ps → ps'.Pairwise tiLe → q (.lst (ps'.map tiD)) M
theorem cd_sortTI : CallD X (.builtin "sorted") rdSortTI := ⟨_, cr_sortTI, fun H0 H M xs ds q Q S r w k => by
  obtain ⟨d, ps, rfl, e, w⟩ := w
  obtain ⟨v, rfl, rv⟩ := dnl1 r
  obtain ⟨a, vs, rfl, hs, rs⟩ := S.lsq rv e
  have ex : ∀ x ∈ vs, ∃ p, Dn X.K H0 x (tiD p) := fun x hx => by
    obtain ⟨n, hn⟩ := List.getElem?_of_mem hx
    obtain ⟨dd, h1, h2⟩ := rs.getV hn
    rw [List.getElem?_map] at h1
    obtain ⟨p, hp, rfl⟩ := omap h1
    exact ⟨p, h2⟩
  refine ⟨a, vs, rfl, hs, fun x hx => ?_, fun us b hs2 hp hb => ?_⟩
  · obtain ⟨p, z⟩ := ex x hx
    exact ⟨p, dn_ti (z.mono S.ex)⟩
  · obtain ⟨es, pe, re⟩ := rs.perm hp
    obtain ⟨ps', pp, rfl⟩ := map_tis pe
    refine k.newL S re (w ps' pp (ti_pw (fun x y p q h1 h2 z => ti_le (z p q (dn_ti (h1.mono S.ex)) (dn_ti (h2.mono S.ex)))) re hs2)) b hb⟩
end
end DL
set_option maxRecDepth 100000
namespace L18
open PySem PySem.Spec PyProof.Rows L2 DL R
/-- a dict of each host's number -/
def numKv (g : Str → Int) (hs : List Host) : List (Key × D) := hs.map fun o => (Sum.inr o.name, D.int (g o.name))
def sd_counted (C : Addr) : SpD := fun ds M q _ => ∃ (size : Int) (r : Rule) (hs : List Host), ds = [.lst (frameL size r hs)] ∧ 1 ≤ size ∧ CrewOk size hs ∧ RuleOk r ∧ ∀ a M', M a = none → M' a = some (.dc (numKv (keptN size r hs) hs)) → Kept M M' → q (.cel a) M'
def sd_firsts (C : Addr) : SpD := fun ds M q _ => ∃ (size : Int) (r : Rule) (hs : List Host), ds = [.lst (frameL size r hs)] ∧ 1 ≤ size ∧ CrewOk size hs ∧ RuleOk r ∧ ∀ a M', M a = none → M' a = some (.dc (numKv (leadN size r hs) hs)) → Kept M M' → q (.cel a) M'
def sd_even_right (C : Addr) : SpD := fun ds M q _ => ∃ (k : Addr) (g : Int), ds = [.cel k] ∧ Kg M k g ∧ g + 1000 < 1099511627776 ∧ ∀ M', KeptB k M M' → q (.bl true) M'
def sd_right (C : Addr) : SpD := fun ds M q _ => ∃ (k : Addr), ds = [.cel k] ∧ Kg M k 0 ∧ ∀ M', KeptB k M M' → q (.bl true) M'
def sd_law (C : Addr) : SpD := fun ds M q _ => ∃ (ns : List Int), ds = [.lsf (ns.map D.int)] ∧ ns.length ≤ 63 ∧ (∀ n ∈ ns, Builtin.Int.intBits n ≤ 1048576) ∧ ∀ M', q (.bl true) M'
end L18
set_option maxRecDepth 100000
namespace L18
open PySem PySem.Spec PyProof.Rows L2 DL R
abbrev N_counted : List Str := ["_law_frame", "_law_found", "_law_first", "_law_many", "_law_edge", "_law_tag", "_law_bay", "_law_spots"]
def db_counted (C : Addr) : DS :=
    (dSeq (dSet 1 (dCB rdDictC (dCons (dLc (dIter (dOp rdIx (dVar 0) (dC (.int 6)))) (gdTup 3 (gdCons (gdName 5) (gdCons (gdName 6) (gdCons (gdName 7) gdNil)))) dYes (dTup (dCons (dVar 5) (dCons (dC (.int 0)) dNil))) [5, 6, 7]) dNil)))
    (dSeq (dFor (dIter (dCall 2 (sd_parted C) (dCons (dOp rdIx (dVar 0) (dC (.int 0))) (dCons (dCall 1 (sd_borders C) (dCons (dOp rdIx (dVar 0) (dC (.int 6))) dNil)) dNil)))) (gdTup 3 (gdCons (gdName 2) (gdCons (gdName 3) (gdCons (gdName 4) gdNil)))) (dFor (dIter (dCall 2 (sd_keep C) (dCons (dVar 0) (dCons (dCall 2 (sd_far C) (dCons (dVar 0) (dCons (dVar 4) dNil))) dNil)))) (gdName 5) (dDPut (dVar 1) (dVar 5) (dOp rdAdd (dDGet (dVar 1) (dVar 5)) (dVar 3)))))
    (dRet (dVar 1))))
abbrev N_firsts : List Str := ["_law_frame", "_law_found", "_law_first", "_law_many", "_law_edge", "_law_tag", "_law_bay", "_law_spots"]
def db_firsts (C : Addr) : DS :=
    (dSeq (dSet 1 (dCB rdDictC (dCons (dLc (dIter (dOp rdIx (dVar 0) (dC (.int 6)))) (gdTup 3 (gdCons (gdName 5) (gdCons (gdName 6) (gdCons (gdName 7) gdNil)))) dYes (dTup (dCons (dVar 5) (dCons (dC (.int 0)) dNil))) [5, 6, 7]) dNil)))
    (dSeq (dFor (dIter (dCall 2 (sd_parted C) (dCons (dOp rdIx (dVar 0) (dC (.int 0))) (dCons (dCall 1 (sd_borders C) (dCons (dOp rdIx (dVar 0) (dC (.int 6))) dNil)) dNil)))) (gdTup 3 (gdCons (gdName 2) (gdCons (gdName 3) (gdCons (gdName 4) gdNil)))) (dSeq (dSet 5 (dOp rdIx (dCall 2 (sd_far C) (dCons (dVar 0) (dCons (dVar 4) dNil))) (dC (.int 0))))
    (dDPut (dVar 1) (dVar 5) (dOp rdAdd (dDGet (dVar 1) (dVar 5)) (dVar 3)))))
    (dRet (dVar 1))))
abbrev N_even_right : List Str := ["_law_keg", "_law_many", "_law_turns", "_law_gap", "_law_rule_here", "_law_begin", "_law_size", "_law_crew", "_law_at", "_law_spots", "_law_mine", "_law_due", "_law_turn", "_law_tag", "_law_share"]
def db_even_right (C : Addr) : DS :=
    (dSeq (dAsg (dTup (dCons (dOp rdAdd (dC (.int 1)) (dCall 2 (sd_dip C) (dCons (dVar 0) (dCons (dC (.int 12)) dNil)))) (dCons (dOp rdAdd (dC (.int 1)) (dCall 2 (sd_dip C) (dCons (dVar 0) (dCons (dC (.int 4)) dNil)))) dNil))) (gdTup 2 (gdCons (gdName 1) (gdCons (gdName 2) gdNil))))
    (dSeq (dSet 3 (dOp rdAdd (dC (.int 1)) (dCall 2 (sd_vast C) (dCons (dVar 0) (dCons (dCall 2 (sd_of C) (dCons (dVar 0) (dCons (dLst (dCons (dC (.int 3)) (dCons (dOp rdPow (dC (.int 10)) (dC (.int 9))) (dCons (dOp rdDivW (dOp rdPow (dC (.int 10)) (dC (.int 18))) (dOp rdMul (dVar 1) (dVar 2))) dNil)))) dNil))) dNil)))))
    (dSeq (dSet 4 (dCall 1 (sd_rule C) (dCons (dVar 0) dNil)))
    (dSeq (dAsg (dTup (dCons (dCall 2 (sd_vast C) (dCons (dVar 0) (dCons (dOp rdMul (dOp rdMul (dVar 3) (dVar 1)) (dVar 2)) dNil))) (dCons (dOp rdMul (dOp rdMul (dVar 3) (dVar 1)) (dVar 2)) dNil))) (gdTup 2 (gdCons (gdName 5) (gdCons (gdName 6) gdNil))))
    (dSeq (dSet 7 (dLstC dNil))
    (dSeq (dFor (dRng1 (dCons (dVar 1) dNil)) (gdName 8) (dSeq (dSet 9 (dCB rdSortI (dCons (dLc (dRng1 (dCons (dVar 2) dNil)) (gdName 12) dYes (dOp rdMod (dCB rdInt (dCons (dOp rdAdd (dVar 5) (dOp rdMul (dVar 3) (dOp rdAdd (dOp rdMul (dVar 1) (dVar 12)) (dVar 8)))) dNil)) (dVar 6)) [12]) dNil)))
    (dExp (dApp (dVar 7) (dCons (dTup (dCons (dOp rdAdd (dC (.str "h")) (dCB rdStrI (dCons (dVar 8) dNil))) (dCons (dOp rdAdd (dC (.str "r")) (dCB rdStrI (dCons (dVar 8) dNil))) (dCons (dCB rdTuple (dCons (dVar 9) dNil)) dNil)))) dNil)))))
    (dSeq (dSet 10 (dCall 1 (sd_plain C) (dCons (dOp rdAdd (dOp rdAdd (dLst (dCons (dVar 6) dNil)) (dVar 4)) (dLst (dCons (dCB rdTuple (dCons (dVar 7) dNil)) dNil))) dNil)))
    (dSeq (dSet 11 (dCB rdTuple (dCons (dCB rdSortTI (dCons (dLc (dRng1 (dCons (dVar 1) dNil)) (gdName 8) dYes (dTup (dCons (dOp rdAdd (dC (.str "h")) (dCB rdStrI (dCons (dVar 8) dNil))) (dCons (dOp rdMul (dOp rdMul (dVar 3) (dVar 2)) (dCB rdMin2 (dCons (dOp rdIx (dVar 4) (dC (.int 0))) (dCons (dVar 1) dNil)))) dNil))) [8]) dNil)) dNil)))
    (dSeq (dIfS (dOr (dTst (dOp rdNe (dCB rdRepr (dCons (dCall 1 (sd_shares C) (dCons (dVar 10) dNil)) dNil)) (dCB rdRepr (dCons (dVar 11) dNil)))) (dTst (dOp rdNe (dCall 1 (sd_greatest C) (dCons (dVar 10) dNil)) (dOp rdMul (dOp rdMul (dVar 3) (dVar 2)) (dCB rdMin2 (dCons (dOp rdIx (dVar 4) (dC (.int 0))) (dCons (dVar 1) dNil))))))) (dRet (dC (.bl false))) dNext)
    (dRet (dOp rdEq (dLc (dIter (dVar 11)) (gdTup 2 (gdCons (gdName 13) (gdCons (gdName 14) gdNil))) dYes (dCall 2 (sd_leads C) (dCons (dVar 10) (dCons (dVar 13) dNil))) [13, 14]) (dOp rdMul (dLst (dCons (dOp rdMul (dVar 3) (dVar 2)) dNil)) (dVar 1)))))))))))))
abbrev N_right : List Str := ["_law_keg", "_law_frame", "_law_mine", "_law_due", "_law_firsts_here", "_law_told", "_law_tag", "_law_share"]
def db_right (C : Addr) : DS :=
    (dSeq (dSet 1 (dCall 4 (sd_build C) (dCons (dVar 0) (dCons (dCall 1 (sd_width C) (dCons (dVar 0) dNil)) (dCons (dC (.int 12)) (dCons (dCall 2 (sd_of C) (dCons (dVar 0) (dCons (dLst (dCons (dC (.int 1)) (dCons (dC (.int 2)) (dCons (dC (.int 4)) dNil)))) dNil))) dNil))))))
    (dSeq (dAsg (dTup (dCons (dCall 2 (sd_made C) (dCons (dVar 0) (dCons (dVar 1) dNil))) (dCons (dCall 1 (sd_counted C) (dCons (dVar 1) dNil)) (dCons (dCall 1 (sd_firsts C) (dCons (dVar 1) dNil)) dNil)))) (gdTup 3 (gdCons (gdName 2) (gdCons (gdName 3) (gdCons (gdName 4) gdNil)))))
    (dSeq (dSet 5 (dCall 1 (sd_shares C) (dCons (dVar 2) dNil)))
    (dSeq (dIfS (dTst (dOp rdNe (dCB rdRepr (dCons (dVar 5) dNil)) (dCB rdRepr (dCons (dCB rdTuple (dCons (dLc (dIter (dCB rdSortD (dCons (dVar 3) dNil))) (gdName 6) dYes (dTup (dCons (dVar 6) (dCons (dDGet (dVar 3) (dVar 6)) dNil))) [6]) dNil)) dNil)))) (dRet (dC (.bl false))) dNext)
    (dSeq (dIfS (dTst (dOp rdNe (dCB rdRepr (dCons (dLockE 3 (dLc (dIterK (dVar 3)) (gdName 6) dYes (dCall 2 (sd_kept C) (dCons (dVar 2) (dCons (dVar 6) dNil))) [6])) dNil)) (dCB rdRepr (dCons (dLockE 3 (dLc (dIterK (dVar 3)) (gdName 6) dYes (dDGetF (dVar 3) (dVar 6)) [6])) dNil)))) (dRet (dC (.bl false))) dNext)
    (dSeq (dIfS (dTst (dOp rdNe (dCB rdRepr (dCons (dLockE 3 (dLc (dIterK (dVar 3)) (gdName 6) dYes (dCall 2 (sd_leads C) (dCons (dVar 2) (dCons (dVar 6) dNil))) [6])) dNil)) (dCB rdRepr (dCons (dLockE 3 (dLc (dIterK (dVar 3)) (gdName 6) dYes (dDGet (dVar 4) (dVar 6)) [6])) dNil)))) (dRet (dC (.bl false))) dNext)
    (dSeq (dIfS (dTst (dOp rdNe (dCB rdRepr (dCons (dCall 1 (sd_greatest C) (dCons (dVar 2) dNil)) dNil)) (dCB rdRepr (dCons (dCB rdMaxL (dCons (dLockE 3 (dLc (dIterK (dVar 3)) (gdName 6) dYes (dDGetF (dVar 3) (dVar 6)) [6])) dNil)) dNil)))) (dRet (dC (.bl false))) dNext)
    (dSeq (dIfS (dTst (dOp rdNe (dCB rdSum (dCons (dLc (dIter (dVar 5)) (gdTup 2 (gdCons (gdName 6) (gdCons (gdName 7) gdNil))) dYes (dVar 7) [6, 7]) dNil)) (dOp rdMul (dOp rdIx (dVar 1) (dC (.int 0))) (dCB rdMin2 (dCons (dOp rdIx (dVar 1) (dC (.int 1))) (dCons (dCB rdLen (dCons (dOp rdIx (dVar 1) (dC (.int 6))) dNil)) dNil)))))) (dRet (dC (.bl false))) dNext)
    (dRet (dAndV (dOp rdEq (dCB rdSum (dCons (dLc (dIter (dVar 5)) (gdTup 2 (gdCons (gdName 6) (gdCons (gdName 7) gdNil))) dYes (dCall 2 (sd_leads C) (dCons (dVar 2) (dCons (dVar 6) dNil))) [6, 7]) dNil)) (dOp rdIx (dVar 1) (dC (.int 0)))) (dCall 1 (sd_even_right C) (dCons (dVar 0) dNil))))))))))))
abbrev N_law : List Str := ["_law_script", "_law_turn"]
def db_law (C : Addr) : DS :=
    (dRet (dCB rdAll (dCons (dLc (dRng1 (dCons (dCB rdMax2 (dCons (dC (.int 2)) (dCons (dCB rdMin2 (dCons (dCB rdLen (dCons (dVar 0) dNil)) (dCons (dC (.int 5)) dNil))) dNil))) dNil)) (gdName 1) dYes (dCall 1 (sd_right C) (dCons (dCall 2 (sd_filled C) (dCons (dVar 0) (dCons (dVar 1) dNil))) dNil)) [1]) dNil)))
end L18
set_option maxRecDepth 100000
set_option maxHeartbeats 4000000
namespace L18
open PySem PySem.Spec PyProof.Rows L2 DL R
/-- what the names of the module stand for -/
structure Tx (K : PySem.W.Frag) (mg : Str → Option Value) (C : Addr) : Prop where
  abs : mg "abs" = none
  all : mg "all" = none
  any : mg "any" = none
  bool : mg "bool" = none
  dict : mg "dict" = none
  divmod : mg "divmod" = none
  enumerate : mg "enumerate" = none
  int : mg "int" = none
  isinstance : mg "isinstance" = none
  len : mg "len" = none
  list : mg "list" = none
  max : mg "max" = none
  min : mg "min" = none
  range : mg "range" = none
  repr : mg "repr" = none
  reversed : mg "reversed" = none
  set : mg "set" = none
  sorted : mg "sorted" = none
  str : mg "str" = none
  sum : mg "sum" = none
  tuple : mg "tuple" = none
  zip : mg "zip" = none
  c_DIGITS : ∃ t, mg "DIGITS" = some (.str "0123456789" t)
  c_LETTERS : ∃ t, mg "LETTERS" = some (.str "abcdefghijklmnopqrstuvwxyz" t)
  c_MOST_DIGITS : ∃ t, mg "MOST_DIGITS" = some (.int 19 t)
  c_MOST_FACTOR : ∃ t, mg "MOST_FACTOR" = some (.int 5 t)
  c_MOST_HOSTS : ∃ t, mg "MOST_HOSTS" = some (.int 12 t)
  c_MOST_MARKS : ∃ t, mg "MOST_MARKS" = some (.int 16 t)
  c_MOST_POINTS : ∃ t, mg "MOST_POINTS" = some (.int 1000000000000000000 t)
  c_MOST_SIGNS : ∃ t, mg "MOST_SIGNS" = some (.int 8 t)
  c_PENDINGS : ∃ a, mg "PENDINGS" = some (.ref a) ∧ ∀ H, SqT K H a [V.str "plain", V.str "with"]
  c_SPREADS : ∃ a, mg "SPREADS" = some (.ref a) ∧ ∀ H, SqT K H a [V.str "hosts", V.str "racks"]
  e_BadValue : ∃ a, mg "BadValue" = some (.ref a)
  isC : OwnI K C
  g_Ring : mg "Ring" = some (.ref C)
  cRing : Cls K C
  na : ∀ f : Str, f ∈ (["_points", "_factor", "_spread", "_write", "_read_number", "_pending", "_hosts", "__bool__"] : List Str) → NoAttr K C f
theorem pd_cint {X : Cx} {W : WX} {x : Str} {i : Int} {pos : Pos} (h : ∃ t, X.mg x = some (.int i t)) (hg : Gl X x := by rfl) (hd : (x == ("__debug__" : Str)) = false := by decide) : PD X W (.Name x pos) (dC (.int i)) := by
  obtain ⟨t, h⟩ := h
  exact pd_of_tC (v := .int i) (pe_glob hg h ⟨t, rfl⟩ hd) fun _ => .int i
theorem pd_cstr {X : Cx} {W : WX} {x i : Str} {pos : Pos} (h : ∃ t, X.mg x = some (.str i t)) (hg : Gl X x := by rfl) (hd : (x == ("__debug__" : Str)) = false := by decide) : PD X W (.Name x pos) (dC (.str i)) := by
  obtain ⟨t, h⟩ := h
  exact pd_of_tC (v := .str i) (pe_glob hg h ⟨t, rfl⟩ hd) fun _ => .str i
theorem pd_ctup {X : Cx} {W : WX} {x : Str} {i j : Str} {pos : Pos} (h : ∃ a, X.mg x = some (.ref a) ∧ ∀ H, SqT X.K H a [V.str i, V.str j]) (hg : Gl X x := by rfl) (hd : (x == ("__debug__" : Str)) = false := by decide) : PD X W (.Name x pos) (dC (.tup [.str i, .str j])) := by
  obtain ⟨a, h, hs⟩ := h
  exact pd_of_tC (v := .ref a) (pe_glob hg h rfl hd) fun H => .tup (hs H) (.cons (.str i) (.cons (.str j) .nil))
theorem hu2_of {A : Around} {k : Nat} (hr : Room k A) : A.units + 200 < cLine := by have := hr.un; omega
abbrev P_filled : List Str := ["_law_script", "_law_turn"]
theorem sc_filled : FnScope N_filled P_filled (defScope s_filled) := ⟨rfl, rfl, rfl, by decide +kernel, rfl, by decide +kernel, by decide +kernel⟩
theorem ok_filled {P : Program} {w : World} {K : PySem.W.Frag} {mg : Str → Option Value} {base : Heap} {C f : Addr} {fd : FuncData} (T : Tx K mg C) 
    (F : FunD K "_law_filled" "_law_filled" (defArgs s_filled) (defBody s_filled) (defScope s_filled) [] [] f fd) (hk : Keeps N_filled 2 (sd_filled C) (db_filled C)) : FnOk P w K mg base (L2.CX P w) 1 f fd P_filled (spOf K 2 (sd_filled C)) := 
  okD F sc_filled rfl (fun cdv A fr s H E hr => (bd_cons (sd_set 2 sc_filled.nd (pd_if (td_cmp opd_lt (vr 1) (pd_callB (cd_len) (by rfl) T.len (by decide +kernel) (ad_cons (vr 0) ad_nil)) (nomark _)) (pd_ix ixd (vr 0) (vr 1) (fun _ _ => rfl)) pd_int))
      (bd_cons (sd_set 3 sc_filled.nd (pd_op opd_add pd_int (pd_op opd_mul pd_int (vr 1))))
      (bd_cons (sd_for poF rfl (id_seq (pd_slice sld (vr 0) od_no (od_some pd_int))) (gd_name (i := 4) sc_filled.nd) (bd_one (sd_set 3 sc_filled.nd (pd_op opd_mod (pd_callTy (cd_int) (by rfl) T.int (by decide +kernel) (ad_cons (pd_op opd_add (pd_op opd_add (pd_op opd_mul (vr 3) pd_int) (pd_op opd_mul (vr 4) pd_int)) pd_int) ad_nil)) pd_int))))
      (bd_one (sd_ret (pd_lstC (ad_cons (pd_if (td_w (wd_or (td_cmp opd_lt (vr 2) pd_int (nomark _)) (wd_or1 (td_cmp opd_ge (vr 2) (pd_op opd_pow pd_int pd_int) (nomark _))))) (pd_callB (cd_abs) (by rfl) T.abs (by decide +kernel) (ad_cons (vr 2) ad_nil)) pd_int) (ad_cons (pd_op opd_mod (pd_callTy (cd_int) (by rfl) T.int (by decide +kernel) (ad_cons (pd_op opd_add (pd_op opd_add (pd_op opd_mul (vr 3) pd_int) (pd_op opd_mul (vr 2) (vr 2))) (pd_op opd_mul pd_int (vr 1))) ad_nil)) pd_int) (ad_cons pd_int ad_nil)))))))))) hk
abbrev P_dip : List Str := ["_law_keg", "_law_many"]
theorem sc_dip : FnScope N_dip P_dip (defScope s_dip) := ⟨rfl, rfl, rfl, by decide +kernel, rfl, by decide +kernel, by decide +kernel⟩
theorem ok_dip {P : Program} {w : World} {K : PySem.W.Frag} {mg : Str → Option Value} {base : Heap} {C f : Addr} {fd : FuncData} (T : Tx K mg C) 
    (F : FunD K "_law_dip" "_law_dip" (defArgs s_dip) (defBody s_dip) (defScope s_dip) [] [] f fd) (hk : Keeps N_dip 2 (sd_dip C) (db_dip C)) : FnOk P w K mg base (L2.CX P w) 1 f fd P_dip (spOf K 2 (sd_dip C)) := 
  okD F sc_dip rfl (fun cdv A fr s H E hr => (bd_cons (sd_if (td_cmp opd_gt (pd_ix ixd (vr 0) pd_int (fun _ _ => rfl)) pd_int (nomark _)) (bd_cons (sd_asg (pd_callB (cd_divmod) (by rfl) T.divmod (by decide +kernel) (ad_cons (pd_ix ixd (vr 0) pd_int (fun _ _ => rfl)) (ad_cons (vr 1) ad_nil))) (gd_tup (n := 2) rfl (gds_cons (gd_sub (vr 0) pd_int) (gds_cons (gd_name (i := 2) sc_dip.nd) gds_nil))))
      (bd_one (sd_ret (vr 2)))) bd_nil)
      (bd_cons (sd_asg (pd_op opd_add (pd_ix ixd (vr 0) pd_int (fun _ _ => rfl)) pd_int) (gd_sub (vr 0) pd_int))
      (bd_cons (sd_set 3 sc_dip.nd (pd_op opd_mod (pd_callTy (cd_int) (by rfl) T.int (by decide +kernel) (ad_cons (pd_op opd_add (pd_op opd_add (pd_op opd_mul (pd_ix ixd (vr 0) pd_int (fun _ _ => rfl)) (pd_op opd_add pd_int (pd_op opd_mul pd_int (pd_ix ixd (vr 0) pd_int (fun _ _ => rfl))))) (pd_op opd_mul pd_int (pd_ix ixd (vr 0) pd_int (fun _ _ => rfl)))) pd_int) ad_nil)) pd_int))
      (bd_cons (sd_asg (pd_op opd_mod (pd_callTy (cd_int) (by rfl) T.int (by decide +kernel) (ad_cons (pd_op opd_add (pd_op opd_mul (vr 3) pd_int) (pd_op opd_mul (pd_ix ixd (vr 0) pd_int (fun _ _ => rfl)) (pd_ix ixd (vr 0) pd_int (fun _ _ => rfl)))) ad_nil)) pd_int) (gd_sub (vr 0) pd_int))
      (bd_one (sd_ret (pd_op opd_mod (pd_callTy (cd_int) (by rfl) T.int (by decide +kernel) (ad_cons (pd_op opd_div (pd_ix ixd (vr 0) pd_int (fun _ _ => rfl)) pd_int) ad_nil)) (vr 1))))))))) hk
abbrev P_free : List Str := ["_law_size", "_law_taken", "_law_wish"]
theorem sc_free : FnScope N_free P_free (defScope s_free) := ⟨rfl, rfl, rfl, by decide +kernel, rfl, by decide +kernel, by decide +kernel⟩
theorem ok_free {P : Program} {w : World} {K : PySem.W.Frag} {mg : Str → Option Value} {base : Heap} {C f : Addr} {fd : FuncData} (T : Tx K mg C) 
    (F : FunD K "_law_free" "_law_free" (defArgs s_free) (defBody s_free) (defScope s_free) [] [] f fd) (hk : Keeps N_free 3 (sd_free C) (db_free C)) : FnOk P w K mg base (L2.CX P w) 1 f fd P_free (spOf K 3 (sd_free C)) := 
  okD F sc_free rfl (fun cdv A fr s H E hr => (bd_cons (sd_for poF rfl (id_rng1 (by rfl) T.range (ad_cons (pd_op opd_add (pd_callB (cd_len) (by rfl) T.len (by decide +kernel) (ad_cons (vr 1) ad_nil)) pd_int) ad_nil)) (gd_name (i := 3) sc_free.nd) (bd_one (sd_if (td_cmp opd_ni (pd_op opd_mod (pd_callTy (cd_int) (by rfl) T.int (by decide +kernel) (ad_cons (pd_op opd_add (vr 2) (vr 3)) ad_nil)) (vr 0)) (vr 1) (by rfl)) (bd_one (sd_ret (pd_op opd_mod (pd_callTy (cd_int) (by rfl) T.int (by decide +kernel) (ad_cons (pd_op opd_add (vr 2) (vr 3)) ad_nil)) (vr 0)))) bd_nil)))
      (bd_one (sd_ret (vr 2))))) hk
abbrev P_borders : List Str := ["_law_crew"]
theorem sc_borders : FnScope N_borders P_borders (defScope s_borders) := ⟨rfl, rfl, rfl, by decide +kernel, rfl, by decide +kernel, by decide +kernel⟩
theorem ok_borders {P : Program} {w : World} {K : PySem.W.Frag} {mg : Str → Option Value} {base : Heap} {C f : Addr} {fd : FuncData} (T : Tx K mg C) 
    (F : FunD K "_law_borders" "_law_borders" (defArgs s_borders) (defBody s_borders) (defScope s_borders) [] [] f fd) (hk : Keeps N_borders 1 (sd_borders C) (db_borders C)) : FnOk P w K mg base (L2.CX P w) 1 f fd P_borders (spOf K 1 (sd_borders C)) := 
  okD F sc_borders rfl (fun cdv A fr s H E hr => (bd_cons (sd_set 1 sc_borders.nd (pd_lst ad_nil))
      (bd_cons (sd_for poF rfl (id_seq (vr 0)) (gd_tup (n := 3) rfl (gds_cons (gd_name (i := 2) sc_borders.nd) (gds_cons (gd_name (i := 3) sc_borders.nd) (gds_cons (gd_name (i := 4) sc_borders.nd) gds_nil)))) (bd_one (sd_set 1 sc_borders.nd (pd_op opd_add (vr 1) (pd_callTy (cd_list) (by rfl) T.list (by decide +kernel) (ad_cons (vr 4) ad_nil))))))
      (bd_one (sd_ret (pd_callB (cd_sortI) (by rfl) T.sorted (by decide +kernel) (ad_cons (vr 1) ad_nil))))))) hk
abbrev P_far : List Str := ["_law_frame", "_law_start"]
theorem sc_far : FnScope N_far P_far (defScope s_far) := ⟨rfl, rfl, rfl, by decide +kernel, rfl, by decide +kernel, by decide +kernel⟩
theorem ok_far {P : Program} {w : World} {K : PySem.W.Frag} {mg : Str → Option Value} {base : Heap} {C f : Addr} {fd : FuncData} (T : Tx K mg C) 
    (F : FunD K "_law_far" "_law_far" (defArgs s_far) (defBody s_far) (defScope s_far) [] [] f fd) (hk : Keeps N_far 2 (sd_far C) (db_far C)) : FnOk P w K mg base (L2.CX P w) 1 f fd P_far (spOf K 2 (sd_far C)) := 
  okD F sc_far rfl (fun cdv A fr s H E hr => (bd_cons (sd_set 2 sc_far.nd (pd_lstC ad_nil))
      (bd_cons (sd_for poF rfl (id_seq (pd_ix ixd (vr 0) pd_int (fun _ _ => rfl))) (gd_tup (n := 3) rfl (gds_cons (gd_name (i := 3) sc_far.nd) (gds_cons (gd_name (i := 4) sc_far.nd) (gds_cons (gd_name (i := 5) sc_far.nd) gds_nil)))) (bd_one (sd_expr (pd_app (vr 2) (ad_cons (pd_tup (ad_cons (pd_callB (cd_minL rfl) (by rfl) T.min (by decide +kernel) (ad_cons (pd_lc (own := [("_law_spot", 6)]) rfl sc_far.nd (id_seq (vr 5)) (blkOk_by (N := N_far) (sc := (defScope s_far)) (by decide +kernel)) (fun _ _ _ _ _ => (gw_name (i := 6) sc_far.nd)) (fun _ _ _ _ _ => tsd_nil) (fun _ _ _ _ _ => (pd_op opd_mod (pd_callTy (cd_int) (by rfl) T.int (by decide +kernel) (ad_cons (pd_op opd_sub (vr 6) (vr 1)) ad_nil)) (pd_ix ixd (vr 0) pd_int (fun _ _ => rfl))))) ad_nil)) (ad_cons (vr 3) ad_nil))) ad_nil)))))
      (bd_one (sd_ret (pd_lc (own := [("_law_way", 7), ("_law_tag", 3)]) rfl sc_far.nd (id_seq (pd_callB (cd_sortP) (by rfl) T.sorted (by decide +kernel) (ad_cons (vr 2) ad_nil))) (blkOk_by (N := N_far) (sc := (defScope s_far)) (by decide +kernel)) (fun _ _ _ _ _ => (gw_tup (n := 2) rfl (gws_cons (gw_name (i := 7) sc_far.nd) (gws_cons (gw_name (i := 3) sc_far.nd) gws_nil)))) (fun _ _ _ _ _ => tsd_nil) (fun _ _ _ _ _ => (vr 3)))))))) hk
abbrev P_keep : List Str := ["_law_frame", "_law_met"]
theorem sc_keep : FnScope N_keep P_keep (defScope s_keep) := ⟨rfl, rfl, rfl, by decide +kernel, rfl, by decide +kernel, by decide +kernel⟩
theorem ok_keep {P : Program} {w : World} {K : PySem.W.Frag} {mg : Str → Option Value} {base : Heap} {C f : Addr} {fd : FuncData} (T : Tx K mg C) 
    (F : FunD K "_law_keep" "_law_keep" (defArgs s_keep) (defBody s_keep) (defScope s_keep) [] [] f fd) (hk : Keeps N_keep 2 (sd_keep C) (db_keep C)) : FnOk P w K mg base (L2.CX P w) 1 f fd P_keep (spOf K 2 (sd_keep C)) := 
  okD F sc_keep rfl (fun cdv A fr s H E hr => (bd_cons (sd_if (td_cmp (opd_eq hr.units) (pd_ix ixd (vr 0) pd_int (fun _ _ => rfl)) pd_str (nomark _)) (bd_one (sd_ret (pd_slice sld (vr 1) od_no (od_some (pd_ix ixd (vr 0) pd_int (fun _ _ => rfl)))))) bd_nil)
      (bd_cons (sd_set 2 sc_keep.nd (pd_callTy (cd_dictC rfl) (by rfl) T.dict (by decide +kernel) (ad_cons (pd_lc (own := [("_law_tag", 5), ("_law_bay", 6), ("_law_spots", 7)]) rfl sc_keep.nd (id_seq (pd_ix ixd (vr 0) pd_int (fun _ _ => rfl))) (blkOk_by (N := N_keep) (sc := (defScope s_keep)) (by decide +kernel)) (fun _ _ _ _ _ => (gw_tup (n := 3) rfl (gws_cons (gw_name (i := 5) sc_keep.nd) (gws_cons (gw_name (i := 6) sc_keep.nd) (gws_cons (gw_name (i := 7) sc_keep.nd) gws_nil))))) (fun _ _ _ _ _ => tsd_nil) (fun _ _ _ _ _ => (pd_tup (ad_cons (vr 5) (ad_cons (vr 6) ad_nil))))) ad_nil)))
      (bd_cons (sd_set 3 sc_keep.nd (pd_lstC ad_nil))
      (bd_cons (sd_for poF rfl (id_rng1 (by rfl) T.range (ad_cons (pd_callB (cd_len) (by rfl) T.len (by decide +kernel) (ad_cons (vr 1) ad_nil)) ad_nil)) (gd_name (i := 4) sc_keep.nd) (bd_one (sd_if (td_cmp opd_ni (pd_dget (hu_of hr) (vr 2) (pd_ix ixd (vr 1) (vr 4) (fun _ _ => rfl)) (fun _ _ => rfl)) (pd_lc (own := [("_law_each", 8)]) rfl sc_keep.nd (id_seq (pd_slice sld (vr 1) od_no (od_some (vr 4)))) (blkOk_by (N := N_keep) (sc := (defScope s_keep)) (by decide +kernel)) (fun _ _ _ _ _ => (gw_name (i := 8) sc_keep.nd)) (fun _ _ _ _ _ => tsd_nil) (fun _ _ _ _ _ => (pd_dget (hu_of hr) (vr 2) (vr 8) (fun _ _ => rfl)))) (by rfl)) (bd_one (sd_expr (pd_app (vr 3) (ad_cons (pd_ix ixd (vr 1) (vr 4) (fun _ _ => rfl)) ad_nil)))) bd_nil)))
      (bd_cons (sd_set 3 sc_keep.nd (pd_slice sld (vr 3) od_no (od_some (pd_ix ixd (vr 0) pd_int (fun _ _ => rfl)))))
      (bd_one (sd_ret (pd_slice sld (pd_op opd_add (vr 3) (pd_lc (own := [("_law_each", 8)]) rfl sc_keep.nd (id_seq (vr 1)) (blkOk_by (N := N_keep) (sc := (defScope s_keep)) (by decide +kernel)) (fun _ _ _ _ _ => (gw_name (i := 8) sc_keep.nd)) (fun _ _ _ _ _ => (tsd_one (td_cmp opd_ni (vr 8) (vr 3) (by rfl)))) (fun _ _ _ _ _ => (vr 8)))) od_no (od_some (pd_ix ixd (vr 0) pd_int (fun _ _ => rfl)))))))))))) hk
abbrev P_parted : List Str := ["_law_size", "_law_edges"]
theorem sc_parted : FnScope N_parted P_parted (defScope s_parted) := ⟨rfl, rfl, rfl, by decide +kernel, rfl, by decide +kernel, by decide +kernel⟩
theorem ok_parted {P : Program} {w : World} {K : PySem.W.Frag} {mg : Str → Option Value} {base : Heap} {C f : Addr} {fd : FuncData} (T : Tx K mg C) 
    (F : FunD K "_law_parted" "_law_parted" (defArgs s_parted) (defBody s_parted) (defScope s_parted) [] [] f fd) (hk : Keeps N_parted 2 (sd_parted C) (db_parted C)) : FnOk P w K mg base (L2.CX P w) 1 f fd P_parted (spOf K 2 (sd_parted C)) := 
  okD F sc_parted rfl (fun cdv A fr s H E hr => (bd_cons (sd_set 2 sc_parted.nd (pd_lstC ad_nil))
      (bd_cons (sd_for poF rfl (id_rng1 (by rfl) T.range (ad_cons (pd_callB (cd_len) (by rfl) T.len (by decide +kernel) (ad_cons (vr 1) ad_nil)) ad_nil)) (gd_name (i := 3) sc_parted.nd) (bd_cons (sd_set 4 sc_parted.nd (pd_ix ixd (vr 1) (pd_op opd_sub (vr 3) pd_int) (fun _ _ => rfl)))
      (bd_one (sd_expr (pd_app (vr 2) (ad_cons (pd_tup (ad_cons (pd_op opd_mod (pd_callTy (cd_int) (by rfl) T.int (by decide +kernel) (ad_cons (pd_op opd_add (vr 4) pd_int) ad_nil)) (vr 0)) (ad_cons (pd_op opd_add (pd_op opd_mod (pd_callTy (cd_int) (by rfl) T.int (by decide +kernel) (ad_cons (pd_op opd_sub (pd_op opd_sub (pd_ix ixd (vr 1) (vr 3) (fun _ _ => rfl)) (vr 4)) pd_int) ad_nil)) (vr 0)) pd_int) (ad_cons (pd_ix ixd (vr 1) (vr 3) (fun _ _ => rfl)) ad_nil)))) ad_nil))))))
      (bd_one (sd_retF (vr 2)))))) hk
abbrev P_is_ascending : List Str := ["row"]
theorem sc_is_ascending : FnScope N_is_ascending P_is_ascending (defScope s_is_ascending) := ⟨rfl, rfl, rfl, by decide +kernel, rfl, by decide +kernel, by decide +kernel⟩
theorem ok_is_ascending {P : Program} {w : World} {K : PySem.W.Frag} {mg : Str → Option Value} {base : Heap} {C f : Addr} {fd : FuncData} (T : Tx K mg C) 
    (F : FunD K "is_ascending" "is_ascending" (defArgs s_is_ascending) (defBody s_is_ascending) (defScope s_is_ascending) [] [] f fd) (hk : Keeps N_is_ascending 1 (sd_is_ascending C) (db_is_ascending C)) : FnOk P w K mg base (L2.CX P w) 1 f fd P_is_ascending (spOf K 1 (sd_is_ascending C)) := 
  okD F sc_is_ascending rfl (fun cdv A fr s H E hr => (bd_one (sd_ret (pd_callB (cd_all rfl) (by rfl) T.all (by decide +kernel) (ad_cons (pd_lc (own := [("one", 1), ("other", 2)]) rfl sc_is_ascending.nd (id_zip (by rfl) T.zip (ad_cons (vr 0) (ad_cons (pd_slice sld (vr 0) (od_some pd_int) od_no) ad_nil))) (blkOk_by (N := N_is_ascending) (sc := (defScope s_is_ascending)) (by decide +kernel)) (fun _ _ _ _ _ => (gw_tup (n := 2) rfl (gws_cons (gw_name (i := 1) sc_is_ascending.nd) (gws_cons (gw_name (i := 2) sc_is_ascending.nd) gws_nil)))) (fun _ _ _ _ _ => tsd_nil) (fun _ _ _ _ _ => (pd_cmp opd_lt (vr 1) (vr 2) (nomark _)))) ad_nil))))) hk
abbrev P_is_whole : List Str := ["value"]
theorem sc_is_whole : FnScope N_is_whole P_is_whole (defScope s_is_whole) := ⟨rfl, rfl, rfl, by decide +kernel, rfl, by decide +kernel, by decide +kernel⟩
theorem ok_is_whole {P : Program} {w : World} {K : PySem.W.Frag} {mg : Str → Option Value} {base : Heap} {C f : Addr} {fd : FuncData} (T : Tx K mg C) 
    (F : FunD K "is_whole" "is_whole" (defArgs s_is_whole) (defBody s_is_whole) (defScope s_is_whole) [] [] f fd) (hk : Keeps N_is_whole 1 (sd_is_whole C) (db_is_whole C)) : FnOk P w K mg base (L2.CX P w) 1 f fd P_is_whole (spOf K 1 (sd_is_whole C)) := 
  okD F sc_is_whole rfl (fun cdv A fr s H E hr => (bd_one (sd_ret (pd_and (pd_isi (vr 0) T.isinstance T.int (by decide +kernel)) (pd_one (pd_not (pd_isi (vr 0) T.isinstance T.bool (by decide +kernel)))))))) hk
abbrev P_is_name : List Str := ["value"]
theorem sc_is_name : FnScope N_is_name P_is_name (defScope s_is_name) := ⟨rfl, rfl, rfl, by decide +kernel, rfl, by decide +kernel, by decide +kernel⟩
theorem ok_is_name {P : Program} {w : World} {K : PySem.W.Frag} {mg : Str → Option Value} {base : Heap} {C f : Addr} {fd : FuncData} (T : Tx K mg C) 
    (F : FunD K "is_name" "is_name" (defArgs s_is_name) (defBody s_is_name) (defScope s_is_name) [] [] f fd) (hk : Keeps N_is_name 1 (sd_is_name C) (db_is_name C)) : FnOk P w K mg base (L2.CX P w) 1 f fd P_is_name (spOf K 1 (sd_is_name C)) := 
  okD F sc_is_name rfl (fun cdv A fr s H E hr => (bd_cons (sd_if (td_w (wd_or (td_not (td_tru (pd_isi (vr 0) T.isinstance T.str (by decide +kernel)))) (wd_or1 (td_not (td_chn opd_le opd_le pd_int (pd_callB (cd_len) (by rfl) T.len (by decide +kernel) (ad_cons (vr 0) ad_nil)) (pd_cint T.c_MOST_SIGNS)))))) (bd_one (sd_ret pd_bl)) bd_nil)
      (bd_one (sd_ret (pd_and (pd_cmp opd_in (pd_ix ixd (vr 0) pd_int (fun _ _ => rfl)) (pd_cstr T.c_LETTERS) (by rfl)) (pd_one (pd_callB (cd_all rfl) (by rfl) T.all (by decide +kernel) (ad_cons (pd_lc (own := [("sign", 1)]) rfl sc_is_name.nd (id_str (vr 0)) (blkOk_by (N := N_is_name) (sc := (defScope s_is_name)) (by decide +kernel)) (fun _ _ _ _ _ => (gw_name (i := 1) sc_is_name.nd)) (fun _ _ _ _ _ => tsd_nil) (fun _ _ _ _ _ => (pd_cmp opd_in (vr 1) (pd_op opd_add (pd_cstr T.c_LETTERS) (pd_cstr T.c_DIGITS)) (by rfl)))) ad_nil)))))))) hk
abbrev P_is_word_of : List Str := ["value", "words"]
theorem sc_is_word_of : FnScope N_is_word_of P_is_word_of (defScope s_is_word_of) := ⟨rfl, rfl, rfl, by decide +kernel, rfl, by decide +kernel, by decide +kernel⟩
theorem ok_is_word_of {P : Program} {w : World} {K : PySem.W.Frag} {mg : Str → Option Value} {base : Heap} {C f : Addr} {fd : FuncData} (T : Tx K mg C) 
    (F : FunD K "is_word_of" "is_word_of" (defArgs s_is_word_of) (defBody s_is_word_of) (defScope s_is_word_of) [] [] f fd) (hk : Keeps N_is_word_of 2 (sd_is_word_of C) (db_is_word_of C)) : FnOk P w K mg base (L2.CX P w) 1 f fd P_is_word_of (spOf K 2 (sd_is_word_of C)) := 
  okD F sc_is_word_of rfl (fun cdv A fr s H E hr => (bd_one (sd_ret (pd_and (pd_isi (vr 0) T.isinstance T.str (by decide +kernel)) (pd_one (pd_cmp opd_in (vr 0) (vr 1) (by rfl))))))) hk
abbrev P_all_marks : List Str := ["hosts"]
theorem sc_all_marks : FnScope N_all_marks P_all_marks (defScope s_all_marks) := ⟨rfl, rfl, rfl, by decide +kernel, rfl, by decide +kernel, by decide +kernel⟩
theorem ok_all_marks {P : Program} {w : World} {K : PySem.W.Frag} {mg : Str → Option Value} {base : Heap} {C f : Addr} {fd : FuncData} (T : Tx K mg C) 
    (F : FunD K "all_marks" "all_marks" (defArgs s_all_marks) (defBody s_all_marks) (defScope s_all_marks) [] [] f fd) (hk : Keeps N_all_marks 1 (sd_all_marks C) (db_all_marks C)) : FnOk P w K mg base (L2.CX P w) 1 f fd P_all_marks (spOf K 1 (sd_all_marks C)) := 
  okD F sc_all_marks rfl (fun cdv A fr s H E hr => (bd_one (sd_ret (pd_sortSet rfl (by rfl) T.sorted (by rfl) T.set (pd_lc2 (own := [("_", 1), ("_", 1), ("marks", 2), ("mark", 3)]) (vs1 := [3]) rfl sc_all_marks.nd (id_seq (vr 0)) (blkOk_by (N := N_all_marks) (sc := (defScope s_all_marks)) (by decide +kernel)) (by decide) (fun _ _ _ _ _ => (gw_tup (n := 3) rfl (gws_cons (gw_name (i := 1) sc_all_marks.nd) (gws_cons (gw_name (i := 1) sc_all_marks.nd) (gws_cons (gw_name (i := 2) sc_all_marks.nd) gws_nil))))) (fun _ _ _ _ _ => tsd_nil) (fun _ _ _ _ _ => (id_seq (vr 2))) (fun _ _ _ _ _ => (gw_name (i := 3) sc_all_marks.nd)) (fun _ _ _ _ _ => tsd_nil) (fun _ _ _ _ _ => (vr 3))))))) hk
abbrev P_arcs_up_to : List Str := ["marks", "points"]
theorem sc_arcs_up_to : FnScope N_arcs_up_to P_arcs_up_to (defScope s_arcs_up_to) := ⟨rfl, rfl, rfl, by decide +kernel, rfl, by decide +kernel, by decide +kernel⟩
theorem ok_arcs_up_to {P : Program} {w : World} {K : PySem.W.Frag} {mg : Str → Option Value} {base : Heap} {C f : Addr} {fd : FuncData} (T : Tx K mg C) 
    (F : FunD K "arcs_up_to" "arcs_up_to" (defArgs s_arcs_up_to) (defBody s_arcs_up_to) (defScope s_arcs_up_to) [] [] f fd) (hk : Keeps N_arcs_up_to 2 (sd_arcs_up_to C) (db_arcs_up_to C)) : FnOk P w K mg base (L2.CX P w) 1 f fd P_arcs_up_to (spOf K 2 (sd_arcs_up_to C)) := 
  okD F sc_arcs_up_to rfl (fun cdv A fr s H E hr => (bd_cons (sd_set 2 sc_arcs_up_to.nd (pd_op opd_add (pd_slice sld (vr 0) (od_some (pd_un und_neg pd_int)) od_no) (pd_slice sld (vr 0) od_no (od_some (pd_un und_neg pd_int)))))
      (bd_one (sd_ret (pd_lc (own := [("before", 3), ("mark", 4)]) rfl sc_arcs_up_to.nd (id_zip (by rfl) T.zip (ad_cons (vr 2) (ad_cons (vr 0) ad_nil))) (blkOk_by (N := N_arcs_up_to) (sc := (defScope s_arcs_up_to)) (by decide +kernel)) (fun _ _ _ _ _ => (gw_tup (n := 2) rfl (gws_cons (gw_name (i := 3) sc_arcs_up_to.nd) (gws_cons (gw_name (i := 4) sc_arcs_up_to.nd) gws_nil)))) (fun _ _ _ _ _ => tsd_nil) (fun _ _ _ _ _ => (pd_tup (ad_cons (pd_op opd_mod (pd_op opd_add (vr 3) pd_int) (vr 1)) (ad_cons (pd_op opd_add (pd_op opd_mod (pd_op opd_sub (pd_op opd_sub (vr 4) (vr 3)) pd_int) (vr 1)) pd_int) ad_nil))))))))) hk
abbrev P_check_ring : List Str := ["ring"]
theorem sc_check_ring : FnScope N_check_ring P_check_ring (defScope s_check_ring) := ⟨rfl, rfl, rfl, by decide +kernel, rfl, by decide +kernel, by decide +kernel⟩
theorem ok_check_ring {P : Program} {w : World} {K : PySem.W.Frag} {mg : Str → Option Value} {base : Heap} {C f : Addr} {fd : FuncData} (T : Tx K mg C) 
    (F : FunD K "check_ring" "check_ring" (defArgs s_check_ring) (defBody s_check_ring) (defScope s_check_ring) [] [] f fd) (hk : Keeps N_check_ring 1 (sd_check_ring C) (db_check_ring C)) : FnOk P w K mg base (L2.CX P w) 1 f fd P_check_ring (spOf K 1 (sd_check_ring C)) := 
  okD F sc_check_ring rfl (fun cdv A fr s H E hr => (bd_one (sd_if (td_not (td_tru (pd_isiC (vr 0) T.isC T.isinstance T.g_Ring))) (bd_one sd_never) bd_nil))) hk
abbrev P_Ring_hosts : List Str := ["self"]
theorem sc_Ring_hosts : FnScope N_Ring_hosts P_Ring_hosts (defScope s_Ring_hosts) := ⟨rfl, rfl, rfl, by decide +kernel, rfl, by decide +kernel, by decide +kernel⟩
theorem ok_Ring_hosts {P : Program} {w : World} {K : PySem.W.Frag} {mg : Str → Option Value} {base : Heap} {C f : Addr} {fd : FuncData} (T : Tx K mg C) 
    (F : FunD K "hosts" "Ring.hosts" (defArgs s_Ring_hosts) (defBody s_Ring_hosts) (defScope s_Ring_hosts) [] [] f fd) (hk : Keeps N_Ring_hosts 1 (sd_Ring_hosts C) (db_Ring_hosts C)) : FnOk P w K mg base (L2.CX P w) 1 f fd P_Ring_hosts (spOf K 1 (sd_Ring_hosts C)) := 
  okD F sc_Ring_hosts rfl (fun cdv A fr s H E hr => (bd_one (sd_ret (pd_fld (vr 0) T.cRing (T.na "_hosts" (by decide)))))) hk
abbrev P_Ring_factor : List Str := ["self"]
theorem sc_Ring_factor : FnScope N_Ring_factor P_Ring_factor (defScope s_Ring_factor) := ⟨rfl, rfl, rfl, by decide +kernel, rfl, by decide +kernel, by decide +kernel⟩
theorem ok_Ring_factor {P : Program} {w : World} {K : PySem.W.Frag} {mg : Str → Option Value} {base : Heap} {C f : Addr} {fd : FuncData} (T : Tx K mg C) 
    (F : FunD K "factor" "Ring.factor" (defArgs s_Ring_factor) (defBody s_Ring_factor) (defScope s_Ring_factor) [] [] f fd) (hk : Keeps N_Ring_factor 1 (sd_Ring_factor C) (db_Ring_factor C)) : FnOk P w K mg base (L2.CX P w) 1 f fd P_Ring_factor (spOf K 1 (sd_Ring_factor C)) := 
  okD F sc_Ring_factor rfl (fun cdv A fr s H E hr => (bd_one (sd_ret (pd_fld (vr 0) T.cRing (T.na "_factor" (by decide)))))) hk
abbrev P_Ring_spread : List Str := ["self"]
theorem sc_Ring_spread : FnScope N_Ring_spread P_Ring_spread (defScope s_Ring_spread) := ⟨rfl, rfl, rfl, by decide +kernel, rfl, by decide +kernel, by decide +kernel⟩
theorem ok_Ring_spread {P : Program} {w : World} {K : PySem.W.Frag} {mg : Str → Option Value} {base : Heap} {C f : Addr} {fd : FuncData} (T : Tx K mg C) 
    (F : FunD K "spread" "Ring.spread" (defArgs s_Ring_spread) (defBody s_Ring_spread) (defScope s_Ring_spread) [] [] f fd) (hk : Keeps N_Ring_spread 1 (sd_Ring_spread C) (db_Ring_spread C)) : FnOk P w K mg base (L2.CX P w) 1 f fd P_Ring_spread (spOf K 1 (sd_Ring_spread C)) := 
  okD F sc_Ring_spread rfl (fun cdv A fr s H E hr => (bd_one (sd_ret (pd_fld (vr 0) T.cRing (T.na "_spread" (by decide)))))) hk
abbrev P_ahead : List Str := ["name", "walk"]
theorem sc_ahead : FnScope N_ahead P_ahead (defScope s_ahead) := ⟨rfl, rfl, rfl, by decide +kernel, rfl, by decide +kernel, by decide +kernel⟩
theorem ok_ahead {P : Program} {w : World} {K : PySem.W.Frag} {mg : Str → Option Value} {base : Heap} {C f : Addr} {fd : FuncData} (T : Tx K mg C) 
    (F : FunD K "ahead" "ahead" (defArgs s_ahead) (defBody s_ahead) (defScope s_ahead) [] [] f fd) (hk : Keeps N_ahead 2 (sd_ahead C) (db_ahead C)) : FnOk P w K mg base (L2.CX P w) 1 f fd P_ahead (spOf K 2 (sd_ahead C)) := 
  okD F sc_ahead rfl (fun cdv A fr s H E hr => (bd_one (sd_ret (pd_op opd_add (pd_tup (ad_cons (vr 0) ad_nil)) (pd_callTy (cd_tuple) (by rfl) T.tuple (by decide +kernel) (ad_cons (pd_lc (own := [("other", 2)]) rfl sc_ahead.nd (id_seq (vr 1)) (blkOk_by (N := N_ahead) (sc := (defScope s_ahead)) (by decide +kernel)) (fun _ _ _ _ _ => (gw_name (i := 2) sc_ahead.nd)) (fun _ _ _ _ _ => (tsd_one (td_cmp (opd_ne hr.units) (vr 2) (vr 0) (nomark _)))) (fun _ _ _ _ _ => (vr 2))) ad_nil)))))) hk
abbrev P_Ring_points : List Str := ["self"]
theorem sc_Ring_points : FnScope N_Ring_points P_Ring_points (defScope s_Ring_points) := ⟨rfl, rfl, rfl, by decide +kernel, rfl, by decide +kernel, by decide +kernel⟩
theorem ok_Ring_points {P : Program} {w : World} {K : PySem.W.Frag} {mg : Str → Option Value} {base : Heap} {C f : Addr} {fd : FuncData} (T : Tx K mg C) 
    (F : FunD K "points" "Ring.points" (defArgs s_Ring_points) (defBody s_Ring_points) (defScope s_Ring_points) [] [] f fd) (hk : Keeps N_Ring_points 1 (sd_Ring_points C) (db_Ring_points C)) : FnOk P w K mg base (L2.CX P w) 1 f fd P_Ring_points (spOf K 1 (sd_Ring_points C)) := 
  okD F sc_Ring_points rfl (fun cdv A fr s H E hr => (bd_one (sd_ret (pd_fld (vr 0) T.cRing (T.na "_points" (by decide)))))) hk
abbrev P_Ring__way : List Str := ["self", "point", "marks"]
theorem sc_Ring__way : FnScope N_Ring__way P_Ring__way (defScope s_Ring__way) := ⟨rfl, rfl, rfl, by decide +kernel, rfl, by decide +kernel, by decide +kernel⟩
theorem ok_Ring__way {P : Program} {w : World} {K : PySem.W.Frag} {mg : Str → Option Value} {base : Heap} {C f : Addr} {fd : FuncData} (T : Tx K mg C) 
    (F : FunD K "_way" "Ring._way" (defArgs s_Ring__way) (defBody s_Ring__way) (defScope s_Ring__way) [] [] f fd) (hk : Keeps N_Ring__way 3 (sd_Ring__way C) (db_Ring__way C)) : FnOk P w K mg base (L2.CX P w) 1 f fd P_Ring__way (spOf K 3 (sd_Ring__way C)) := 
  okD F sc_Ring__way rfl (fun cdv A fr s H E hr => (bd_one (sd_ret (pd_callB (cd_minL rfl) (by rfl) T.min (by decide +kernel) (ad_cons (pd_lc (own := [("mark", 3)]) rfl sc_Ring__way.nd (id_seq (vr 2)) (blkOk_by (N := N_Ring__way) (sc := (defScope s_Ring__way)) (by decide +kernel)) (fun _ _ _ _ _ => (gw_name (i := 3) sc_Ring__way.nd)) (fun _ _ _ _ _ => tsd_nil) (fun _ _ _ _ _ => (pd_op opd_mod (pd_op opd_sub (vr 3) (vr 1)) (pd_fld (vr 0) T.cRing (T.na "_points" (by decide)))))) ad_nil))))) hk
abbrev P_Ring_names : List Str := ["self"]
theorem sc_Ring_names : FnScope N_Ring_names P_Ring_names (defScope s_Ring_names) := ⟨rfl, rfl, rfl, by decide +kernel, rfl, by decide +kernel, by decide +kernel⟩
theorem ok_Ring_names {P : Program} {w : World} {K : PySem.W.Frag} {mg : Str → Option Value} {base : Heap} {C f : Addr} {fd : FuncData} (T : Tx K mg C) 
    (F : FunD K "names" "Ring.names" (defArgs s_Ring_names) (defBody s_Ring_names) (defScope s_Ring_names) [] [] f fd) (hk : Keeps N_Ring_names 1 (sd_Ring_names C) (db_Ring_names C)) : FnOk P w K mg base (L2.CX P w) 1 f fd P_Ring_names (spOf K 1 (sd_Ring_names C)) := 
  okD F sc_Ring_names rfl (fun cdv A fr s H E hr => (bd_one (sd_ret (pd_callTy (cd_tuple) (by rfl) T.tuple (by decide +kernel) (ad_cons (pd_callB (cd_sortS) (by rfl) T.sorted (by decide +kernel) (ad_cons (pd_lc (own := [("host", 1)]) rfl sc_Ring_names.nd (id_seq (pd_fld (vr 0) T.cRing (T.na "_hosts" (by decide)))) (blkOk_by (N := N_Ring_names) (sc := (defScope s_Ring_names)) (by decide +kernel)) (fun _ _ _ _ _ => (gw_name (i := 1) sc_Ring_names.nd)) (fun _ _ _ _ _ => tsd_nil) (fun _ _ _ _ _ => (pd_ix ixd (vr 1) pd_int (fun _ _ => rfl)))) ad_nil)) ad_nil))))) hk
abbrev P_sheet : List Str := ["_law_frame"]
theorem sc_sheet : FnScope N_sheet P_sheet (defScope s_sheet) := ⟨rfl, rfl, rfl, by decide +kernel, rfl, by decide +kernel, by decide +kernel⟩
theorem ok_sheet {P : Program} {w : World} {K : PySem.W.Frag} {mg : Str → Option Value} {base : Heap} {C f : Addr} {fd : FuncData} (T : Tx K mg C) 
    (F : FunD K "_law_sheet" "_law_sheet" (defArgs s_sheet) (defBody s_sheet) (defScope s_sheet) [] [] f fd) (hk : Keeps N_sheet 1 (sd_sheet C) (db_sheet C)) : FnOk P w K mg base (L2.CX P w) 1 f fd P_sheet (spOf K 1 (sd_sheet C)) := 
  okD F sc_sheet rfl (fun cdv A fr s H E hr => (bd_cons (sd_asg (vr 0) (gd_lst (n := 7) rfl (gds_cons (gd_name (i := 1) sc_sheet.nd) (gds_cons (gd_name (i := 2) sc_sheet.nd) (gds_cons (gd_name (i := 3) sc_sheet.nd) (gds_cons (gd_name (i := 4) sc_sheet.nd) (gds_cons (gd_name (i := 5) sc_sheet.nd) (gds_cons (gd_name (i := 6) sc_sheet.nd) (gds_cons (gd_name (i := 7) sc_sheet.nd) gds_nil)))))))))
      (bd_cons (sd_set 8 sc_sheet.nd (pd_lstC (ad_cons (pd_join pd_str (pd_lst (ad_cons pd_str (ad_cons (pd_callTy (cd_strI) (by rfl) T.str (by decide +kernel) (ad_cons (vr 1) ad_nil)) (ad_cons (pd_callTy (cd_strI) (by rfl) T.str (by decide +kernel) (ad_cons (vr 2) ad_nil)) (ad_cons (vr 3) (ad_cons (pd_callTy (cd_strI) (by rfl) T.str (by decide +kernel) (ad_cons (vr 4) ad_nil)) (ad_cons (pd_callTy (cd_strI) (by rfl) T.str (by decide +kernel) (ad_cons (vr 5) ad_nil)) (ad_cons (vr 6) ad_nil))))))))) ad_nil)))
      (bd_cons (sd_for poF rfl (id_seq (vr 7)) (gd_tup (n := 3) rfl (gds_cons (gd_name (i := 9) sc_sheet.nd) (gds_cons (gd_name (i := 10) sc_sheet.nd) (gds_cons (gd_name (i := 11) sc_sheet.nd) gds_nil)))) (bd_one (sd_expr (pd_app (vr 8) (ad_cons (pd_join pd_str (pd_op opd_add (pd_lst (ad_cons pd_str (ad_cons (vr 9) (ad_cons (vr 10) ad_nil)))) (pd_lc (own := [("_law_spot", 12)]) rfl sc_sheet.nd (id_seq (vr 11)) (blkOk_by (N := N_sheet) (sc := (defScope s_sheet)) (by decide +kernel)) (fun _ _ _ _ _ => (gw_name (i := 12) sc_sheet.nd)) (fun _ _ _ _ _ => tsd_nil) (fun _ _ _ _ _ => (pd_callTy (cd_strI) (by rfl) T.str (by decide +kernel) (ad_cons (vr 12) ad_nil)))))) ad_nil)))))
      (bd_one (sd_ret (pd_join pd_str (vr 8)))))))) hk
abbrev P_is_written_number : List Str := ["word"]
theorem sc_is_written_number : FnScope N_is_written_number P_is_written_number (defScope s_is_written_number) := ⟨rfl, rfl, rfl, by decide +kernel, rfl, by decide +kernel, by decide +kernel⟩
theorem ok_is_written_number {P : Program} {w : World} {K : PySem.W.Frag} {mg : Str → Option Value} {base : Heap} {C f : Addr} {fd : FuncData} (T : Tx K mg C) 
    (F : FunD K "is_written_number" "is_written_number" (defArgs s_is_written_number) (defBody s_is_written_number) (defScope s_is_written_number) [] [] f fd) (hk : Keeps N_is_written_number 1 (sd_is_written_number C) (db_is_written_number C)) : FnOk P w K mg base (L2.CX P w) 1 f fd P_is_written_number (spOf K 1 (sd_is_written_number C)) := 
  okD F sc_is_written_number rfl (fun cdv A fr s H E hr => (bd_cons (sd_if (td_not (td_chn opd_le opd_le pd_int (pd_callB (cd_len) (by rfl) T.len (by decide +kernel) (ad_cons (vr 0) ad_nil)) (pd_cint T.c_MOST_DIGITS))) (bd_one (sd_ret pd_bl)) bd_nil)
      (bd_one (sd_ret (pd_and (pd_callB (cd_all rfl) (by rfl) T.all (by decide +kernel) (ad_cons (pd_lc (own := [("sign", 1)]) rfl sc_is_written_number.nd (id_str (vr 0)) (blkOk_by (N := N_is_written_number) (sc := (defScope s_is_written_number)) (by decide +kernel)) (fun _ _ _ _ _ => (gw_name (i := 1) sc_is_written_number.nd)) (fun _ _ _ _ _ => tsd_nil) (fun _ _ _ _ _ => (pd_cmp opd_in (vr 1) (pd_cstr T.c_DIGITS) (by rfl)))) ad_nil)) (pd_one (pd_or (pd_cmp (opd_eq hr.units) (vr 0) pd_str (nomark _)) (pd_one (pd_cmp (opd_ne hr.units) (pd_ix ixd (vr 0) pd_int (fun _ _ => rfl)) pd_str (nomark _)))))))))) hk
abbrev P_of : List Str := ["_law_keg", "_law_things"]
theorem sc_of : FnScope N_of P_of (defScope s_of) := ⟨rfl, rfl, rfl, by decide +kernel, rfl, by decide +kernel, by decide +kernel⟩
theorem ok_of {P : Program} {w : World} {K : PySem.W.Frag} {mg : Str → Option Value} {base : Heap} {C f : Addr} {fd : FuncData} (T : Tx K mg C) (F_dip : Fok P w K mg base "_law_dip" 1 2 (sd_dip C))
    (F : FunD K "_law_of" "_law_of" (defArgs s_of) (defBody s_of) (defScope s_of) [] [] f fd) (hk : Keeps N_of 2 (sd_of C) (db_of C)) : FnOk P w K mg base (L2.CX P w) 2 f fd P_of (spOf K 2 (sd_of C)) := 
  okD F sc_of rfl (fun cdv A fr s H E hr => (bd_one (sd_ret (pd_ix ixd (vr 1) (pd_fn F_dip (hr.mono (by decide)) tkF (ad_cons (vr 0) (ad_cons (pd_callB (cd_len) (by rfl) T.len (by decide +kernel) (ad_cons (vr 1) ad_nil)) ad_nil))) (fun _ _ => rfl))))) hk
abbrev P_vast : List Str := ["_law_keg", "_law_many"]
theorem sc_vast : FnScope N_vast P_vast (defScope s_vast) := ⟨rfl, rfl, rfl, by decide +kernel, rfl, by decide +kernel, by decide +kernel⟩
theorem ok_vast {P : Program} {w : World} {K : PySem.W.Frag} {mg : Str → Option Value} {base : Heap} {C f : Addr} {fd : FuncData} (T : Tx K mg C) (F_dip : Fok P w K mg base "_law_dip" 1 2 (sd_dip C))
    (F : FunD K "_law_vast" "_law_vast" (defArgs s_vast) (defBody s_vast) (defScope s_vast) [] [] f fd) (hk : Keeps N_vast 2 (sd_vast C) (db_vast C)) : FnOk P w K mg base (L2.CX P w) 2 f fd P_vast (spOf K 2 (sd_vast C)) := 
  okD F sc_vast rfl (fun cdv A fr s H E hr => (bd_cons (sd_set 2 sc_vast.nd pd_int)
      (bd_cons (sd_for poF rfl (id_rng1 (by rfl) T.range (ad_cons pd_int ad_nil)) (gd_name (i := 3) sc_vast.nd) (bd_one (sd_set 2 sc_vast.nd (pd_op opd_add (pd_op opd_mul (vr 2) pd_int) (pd_fn F_dip (hr.mono (by decide)) tkF (ad_cons (vr 0) (ad_cons pd_int ad_nil)))))))
      (bd_one (sd_ret (pd_op opd_mod (pd_callTy (cd_int) (by rfl) T.int (by decide +kernel) (ad_cons (vr 2) ad_nil)) (vr 1))))))) hk
abbrev P_counted : List Str := ["_law_frame"]
theorem sc_counted : FnScope N_counted P_counted (defScope s_counted) := ⟨rfl, rfl, rfl, by decide +kernel, rfl, by decide +kernel, by decide +kernel⟩
theorem ok_counted {P : Program} {w : World} {K : PySem.W.Frag} {mg : Str → Option Value} {base : Heap} {C f : Addr} {fd : FuncData} (T : Tx K mg C) (F_borders : Fok P w K mg base "_law_borders" 1 1 (sd_borders C)) (F_far : Fok P w K mg base "_law_far" 1 2 (sd_far C)) (F_keep : Fok P w K mg base "_law_keep" 1 2 (sd_keep C)) (F_parted : Fok P w K mg base "_law_parted" 1 2 (sd_parted C))
    (F : FunD K "_law_counted" "_law_counted" (defArgs s_counted) (defBody s_counted) (defScope s_counted) [] [] f fd) (hk : Keeps N_counted 1 (sd_counted C) (db_counted C)) : FnOk P w K mg base (L2.CX P w) 2 f fd P_counted (spOf K 1 (sd_counted C)) := 
  okD F sc_counted rfl (fun cdv A fr s H E hr => (bd_cons (sd_set 1 sc_counted.nd (pd_callTy (cd_dictC rfl) (by rfl) T.dict (by decide +kernel) (ad_cons (pd_lc (own := [("_law_tag", 5), ("_law_bay", 6), ("_law_spots", 7)]) rfl sc_counted.nd (id_seq (pd_ix ixd (vr 0) pd_int (fun _ _ => rfl))) (blkOk_by (N := N_counted) (sc := (defScope s_counted)) (by decide +kernel)) (fun _ _ _ _ _ => (gw_tup (n := 3) rfl (gws_cons (gw_name (i := 5) sc_counted.nd) (gws_cons (gw_name (i := 6) sc_counted.nd) (gws_cons (gw_name (i := 7) sc_counted.nd) gws_nil))))) (fun _ _ _ _ _ => tsd_nil) (fun _ _ _ _ _ => (pd_tup (ad_cons (vr 5) (ad_cons pd_int ad_nil))))) ad_nil)))
      (bd_cons (sd_for poF rfl (id_seq (pd_fn F_parted (hr.mono (by decide)) tkF (ad_cons (pd_ix ixd (vr 0) pd_int (fun _ _ => rfl)) (ad_cons (pd_fn F_borders (hr.mono (by decide)) tkF (ad_cons (pd_ix ixd (vr 0) pd_int (fun _ _ => rfl)) ad_nil)) ad_nil)))) (gd_tup (n := 3) rfl (gds_cons (gd_name (i := 2) sc_counted.nd) (gds_cons (gd_name (i := 3) sc_counted.nd) (gds_cons (gd_name (i := 4) sc_counted.nd) gds_nil)))) (bd_one (sd_for poF rfl (id_seq (pd_fn F_keep (hr.mono (by decide)) tkF (ad_cons (vr 0) (ad_cons (pd_fn F_far (hr.mono (by decide)) tkF (ad_cons (vr 0) (ad_cons (vr 4) ad_nil))) ad_nil)))) (gd_name (i := 5) sc_counted.nd) (bd_one (sd_dput (hu_of hr) (vr 1) (vr 5) (pd_op opd_add (pd_dget (hu_of hr) (vr 1) (vr 5) (fun _ _ => rfl)) (vr 3)))))))
      (bd_one (sd_ret (vr 1)))))) hk
abbrev P_is_from_to : List Str := ["value", "least", "most"]
theorem sc_is_from_to : FnScope N_is_from_to P_is_from_to (defScope s_is_from_to) := ⟨rfl, rfl, rfl, by decide +kernel, rfl, by decide +kernel, by decide +kernel⟩
theorem ok_is_from_to {P : Program} {w : World} {K : PySem.W.Frag} {mg : Str → Option Value} {base : Heap} {C f : Addr} {fd : FuncData} (T : Tx K mg C) (F_is_whole : Fok P w K mg base "is_whole" 1 1 (sd_is_whole C))
    (F : FunD K "is_from_to" "is_from_to" (defArgs s_is_from_to) (defBody s_is_from_to) (defScope s_is_from_to) [] [] f fd) (hk : Keeps N_is_from_to 3 (sd_is_from_to C) (db_is_from_to C)) : FnOk P w K mg base (L2.CX P w) 2 f fd P_is_from_to (spOf K 3 (sd_is_from_to C)) := 
  okD F sc_is_from_to rfl (fun cdv A fr s H E hr => (bd_one (sd_ret (pd_and (pd_fn F_is_whole (hr.mono (by decide)) tkF (ad_cons (vr 0) ad_nil)) (pd_one (pd_chn opd_le opd_le (vr 1) (vr 0) (vr 2))))))) hk
abbrev P_is_free_name : List Str := ["value", "hosts"]
theorem sc_is_free_name : FnScope N_is_free_name P_is_free_name (defScope s_is_free_name) := ⟨rfl, rfl, rfl, by decide +kernel, rfl, by decide +kernel, by decide +kernel⟩
theorem ok_is_free_name {P : Program} {w : World} {K : PySem.W.Frag} {mg : Str → Option Value} {base : Heap} {C f : Addr} {fd : FuncData} (T : Tx K mg C) (F_is_name : Fok P w K mg base "is_name" 1 1 (sd_is_name C))
    (F : FunD K "is_free_name" "is_free_name" (defArgs s_is_free_name) (defBody s_is_free_name) (defScope s_is_free_name) [] [] f fd) (hk : Keeps N_is_free_name 2 (sd_is_free_name C) (db_is_free_name C)) : FnOk P w K mg base (L2.CX P w) 2 f fd P_is_free_name (spOf K 2 (sd_is_free_name C)) := 
  okD F sc_is_free_name rfl (fun cdv A fr s H E hr => (bd_one (sd_ret (pd_and (pd_fn F_is_name (hr.mono (by decide)) tkF (ad_cons (vr 0) ad_nil)) (pd_one (pd_not (pd_callB (cd_any rfl) (by rfl) T.any (by decide +kernel) (ad_cons (pd_lc (own := [("host", 2)]) rfl sc_is_free_name.nd (id_seq (vr 1)) (blkOk_by (N := N_is_free_name) (sc := (defScope s_is_free_name)) (by decide +kernel)) (fun _ _ _ _ _ => (gw_name (i := 2) sc_is_free_name.nd)) (fun _ _ _ _ _ => tsd_nil) (fun _ _ _ _ _ => (pd_cmp (opd_eq hr.units) (vr 0) (pd_ix ixd (vr 2) pd_int (fun _ _ => rfl)) (nomark _)))) ad_nil)))))))) hk
abbrev P_firsts : List Str := ["_law_frame"]
theorem sc_firsts : FnScope N_firsts P_firsts (defScope s_firsts) := ⟨rfl, rfl, rfl, by decide +kernel, rfl, by decide +kernel, by decide +kernel⟩
theorem ok_firsts {P : Program} {w : World} {K : PySem.W.Frag} {mg : Str → Option Value} {base : Heap} {C f : Addr} {fd : FuncData} (T : Tx K mg C) (F_borders : Fok P w K mg base "_law_borders" 1 1 (sd_borders C)) (F_far : Fok P w K mg base "_law_far" 1 2 (sd_far C)) (F_parted : Fok P w K mg base "_law_parted" 1 2 (sd_parted C))
    (F : FunD K "_law_firsts" "_law_firsts" (defArgs s_firsts) (defBody s_firsts) (defScope s_firsts) [] [] f fd) (hk : Keeps N_firsts 1 (sd_firsts C) (db_firsts C)) : FnOk P w K mg base (L2.CX P w) 2 f fd P_firsts (spOf K 1 (sd_firsts C)) := 
  okD F sc_firsts rfl (fun cdv A fr s H E hr => (bd_cons (sd_set 1 sc_firsts.nd (pd_callTy (cd_dictC rfl) (by rfl) T.dict (by decide +kernel) (ad_cons (pd_lc (own := [("_law_tag", 5), ("_law_bay", 6), ("_law_spots", 7)]) rfl sc_firsts.nd (id_seq (pd_ix ixd (vr 0) pd_int (fun _ _ => rfl))) (blkOk_by (N := N_firsts) (sc := (defScope s_firsts)) (by decide +kernel)) (fun _ _ _ _ _ => (gw_tup (n := 3) rfl (gws_cons (gw_name (i := 5) sc_firsts.nd) (gws_cons (gw_name (i := 6) sc_firsts.nd) (gws_cons (gw_name (i := 7) sc_firsts.nd) gws_nil))))) (fun _ _ _ _ _ => tsd_nil) (fun _ _ _ _ _ => (pd_tup (ad_cons (vr 5) (ad_cons pd_int ad_nil))))) ad_nil)))
      (bd_cons (sd_for poF rfl (id_seq (pd_fn F_parted (hr.mono (by decide)) tkF (ad_cons (pd_ix ixd (vr 0) pd_int (fun _ _ => rfl)) (ad_cons (pd_fn F_borders (hr.mono (by decide)) tkF (ad_cons (pd_ix ixd (vr 0) pd_int (fun _ _ => rfl)) ad_nil)) ad_nil)))) (gd_tup (n := 3) rfl (gds_cons (gd_name (i := 2) sc_firsts.nd) (gds_cons (gd_name (i := 3) sc_firsts.nd) (gds_cons (gd_name (i := 4) sc_firsts.nd) gds_nil)))) (bd_cons (sd_set 5 sc_firsts.nd (pd_ix ixd (pd_fn F_far (hr.mono (by decide)) tkF (ad_cons (vr 0) (ad_cons (vr 4) ad_nil))) pd_int (fun _ _ => rfl)))
      (bd_one (sd_dput (hu_of hr) (vr 1) (vr 5) (pd_op opd_add (pd_dget (hu_of hr) (vr 1) (vr 5) (fun _ _ => rfl)) (vr 3))))))
      (bd_one (sd_ret (vr 1)))))) hk
abbrev P_written_number : List Str := ["word"]
theorem sc_written_number : FnScope N_written_number P_written_number (defScope s_written_number) := ⟨rfl, rfl, rfl, by decide +kernel, rfl, by decide +kernel, by decide +kernel⟩
theorem ok_written_number {P : Program} {w : World} {K : PySem.W.Frag} {mg : Str → Option Value} {base : Heap} {C f : Addr} {fd : FuncData} (T : Tx K mg C) (F_is_written_number : Fok P w K mg base "is_written_number" 1 1 (sd_is_written_number C))
    (F : FunD K "written_number" "written_number" (defArgs s_written_number) (defBody s_written_number) (defScope s_written_number) [] [] f fd) (hk : Keeps N_written_number 1 (sd_written_number C) (db_written_number C)) : FnOk P w K mg base (L2.CX P w) 2 f fd P_written_number (spOf K 1 (sd_written_number C)) := 
  okD F sc_written_number rfl (fun cdv A fr s H E hr => (bd_cons (sd_if (td_not (td_tru (pd_fn F_is_written_number (hr.mono (by decide)) tkF (ad_cons (vr 0) ad_nil)))) (bd_one (sd_ret pd_non)) bd_nil)
      (bd_one (sd_ret (pd_callTy (cd_intS) (by rfl) T.int (by decide +kernel) (ad_cons (vr 0) ad_nil)))))) hk
abbrev P_place : List Str := ["_law_keg", "_law_size", "_law_taken"]
theorem sc_place : FnScope N_place P_place (defScope s_place) := ⟨rfl, rfl, rfl, by decide +kernel, rfl, by decide +kernel, by decide +kernel⟩
theorem ok_place {P : Program} {w : World} {K : PySem.W.Frag} {mg : Str → Option Value} {base : Heap} {C f : Addr} {fd : FuncData} (T : Tx K mg C) (F_dip : Fok P w K mg base "_law_dip" 1 2 (sd_dip C)) (F_of : Fok P w K mg base "_law_of" 2 2 (sd_of C)) (F_vast : Fok P w K mg base "_law_vast" 2 2 (sd_vast C))
    (F : FunD K "_law_place" "_law_place" (defArgs s_place) (defBody s_place) (defScope s_place) [] [] f fd) (hk : Keeps N_place 3 (sd_place C) (db_place C)) : FnOk P w K mg base (L2.CX P w) 3 f fd P_place (spOf K 3 (sd_place C)) := 
  okD F sc_place rfl (fun cdv A fr s H E hr => (bd_cons (sd_set 3 sc_place.nd (pd_fn F_dip (hr.mono (by decide)) tkF (ad_cons (vr 0) (ad_cons pd_int ad_nil))))
      (bd_cons (sd_if (td_cmp (opd_eq hr.units) (vr 3) pd_int (nomark _)) (bd_one (sd_ret (pd_ix ixd (pd_lst (ad_cons pd_int (ad_cons (pd_op opd_sub (vr 1) pd_int) ad_nil))) (pd_fn F_dip (hr.mono (by decide)) tkF (ad_cons (vr 0) (ad_cons pd_int ad_nil))) (fun _ _ => rfl)))) bd_nil)
      (bd_cons (sd_if (td_w (wd_and (td_cmp opd_lt (vr 3) pd_int (nomark _)) (wd_and1 (td_cmp (opd_ne hr.units) (vr 2) (pd_lst ad_nil) (nomark _))))) (bd_one (sd_ret (pd_op opd_mod (pd_callTy (cd_int) (by rfl) T.int (by decide +kernel) (ad_cons (pd_op opd_sub (pd_op opd_add (pd_fn F_of (hr.mono (by decide)) tkF (ad_cons (vr 0) (ad_cons (vr 2) ad_nil))) (pd_fn F_dip (hr.mono (by decide)) tkF (ad_cons (vr 0) (ad_cons pd_int ad_nil)))) pd_int) ad_nil)) (vr 1)))) bd_nil)
      (bd_one (sd_ret (pd_if (td_cmp opd_lt (vr 1) pd_int (nomark _)) (pd_fn F_dip (hr.mono (by decide)) tkF (ad_cons (vr 0) (ad_cons (vr 1) ad_nil))) (pd_fn F_vast (hr.mono (by decide)) tkF (ad_cons (vr 0) (ad_cons (vr 1) ad_nil)))))))))) hk
abbrev P_title : List Str := ["_law_keg"]
theorem sc_title : FnScope N_title P_title (defScope s_title) := ⟨rfl, rfl, rfl, by decide +kernel, rfl, by decide +kernel, by decide +kernel⟩
theorem ok_title {P : Program} {w : World} {K : PySem.W.Frag} {mg : Str → Option Value} {base : Heap} {C f : Addr} {fd : FuncData} (T : Tx K mg C) (F_dip : Fok P w K mg base "_law_dip" 1 2 (sd_dip C)) (F_of : Fok P w K mg base "_law_of" 2 2 (sd_of C))
    (F : FunD K "_law_title" "_law_title" (defArgs s_title) (defBody s_title) (defScope s_title) [] [] f fd) (hk : Keeps N_title 1 (sd_title C) (db_title C)) : FnOk P w K mg base (L2.CX P w) 3 f fd P_title (spOf K 1 (sd_title C)) := 
  okD F sc_title rfl (fun cdv A fr s H E hr => (bd_cons (sd_set 1 sc_title.nd pd_str)
      (bd_cons (sd_if (td_cmp (opd_eq hr.units) (pd_fn F_dip (hr.mono (by decide)) tkF (ad_cons (vr 0) (ad_cons pd_int ad_nil))) pd_int (nomark _)) (bd_one (sd_ret (pd_fn F_of (hr.mono (by decide)) tkF (ad_cons (vr 0) (ad_cons (pd_lst (ad_cons pd_str (ad_cons pd_str (ad_cons pd_str (ad_cons pd_str (ad_cons pd_str (ad_cons pd_str (ad_cons pd_str (ad_cons pd_str (ad_cons pd_str ad_nil)))))))))) ad_nil))))) bd_nil)
      (bd_cons (sd_set 2 sc_title.nd (pd_ix ixd (vr 1) (pd_fn F_dip (hr.mono (by decide)) tkF (ad_cons (vr 0) (ad_cons pd_int ad_nil))) (fun _ _ => rfl)))
      (bd_cons (sd_for poF rfl (id_rng1 (by rfl) T.range (ad_cons (pd_fn F_of (hr.mono (by decide)) tkF (ad_cons (vr 0) (ad_cons (pd_lst (ad_cons pd_int (ad_cons pd_int (ad_cons pd_int (ad_cons pd_int (ad_cons pd_int (ad_cons pd_int ad_nil))))))) ad_nil))) ad_nil)) (gd_name (i := 3) sc_title.nd) (bd_one (sd_set 2 sc_title.nd (pd_op opd_add (vr 2) (pd_ix ixd (pd_op opd_add (vr 1) pd_str) (pd_fn F_dip (hr.mono (by decide)) tkF (ad_cons (vr 0) (ad_cons pd_int ad_nil))) (fun _ _ => rfl))))))
      (bd_one (sd_ret (vr 2)))))))) hk
abbrev P_rule : List Str := ["_law_keg"]
theorem sc_rule : FnScope N_rule P_rule (defScope s_rule) := ⟨rfl, rfl, rfl, by decide +kernel, rfl, by decide +kernel, by decide +kernel⟩
theorem ok_rule {P : Program} {w : World} {K : PySem.W.Frag} {mg : Str → Option Value} {base : Heap} {C f : Addr} {fd : FuncData} (T : Tx K mg C) (F_dip : Fok P w K mg base "_law_dip" 1 2 (sd_dip C)) (F_of : Fok P w K mg base "_law_of" 2 2 (sd_of C))
    (F : FunD K "_law_rule" "_law_rule" (defArgs s_rule) (defBody s_rule) (defScope s_rule) [] [] f fd) (hk : Keeps N_rule 1 (sd_rule C) (db_rule C)) : FnOk P w K mg base (L2.CX P w) 3 f fd P_rule (spOf K 1 (sd_rule C)) := 
  okD F sc_rule rfl (fun cdv A fr s H E hr => (bd_cons (sd_set 1 sc_rule.nd (pd_op opd_add pd_int (pd_fn F_dip (hr.mono (by decide)) tkF (ad_cons (vr 0) (ad_cons pd_int ad_nil)))))
      (bd_cons (sd_set 2 sc_rule.nd (pd_lst (ad_cons (vr 1) (ad_cons (pd_fn F_of (hr.mono (by decide)) tkF (ad_cons (vr 0) (ad_cons (pd_lst (ad_cons pd_str (ad_cons pd_str ad_nil))) ad_nil))) ad_nil))))
      (bd_one (sd_ret (pd_op opd_add (vr 2) (pd_lst (ad_cons (pd_op opd_add pd_int (pd_fn F_dip (hr.mono (by decide)) tkF (ad_cons (vr 0) (ad_cons (vr 1) ad_nil)))) (ad_cons (pd_op opd_add pd_int (pd_fn F_dip (hr.mono (by decide)) tkF (ad_cons (vr 0) (ad_cons (vr 1) ad_nil)))) (ad_cons (pd_fn F_of (hr.mono (by decide)) tkF (ad_cons (vr 0) (ad_cons (pd_lst (ad_cons pd_str (ad_cons pd_str ad_nil))) ad_nil))) ad_nil)))))))))) hk
abbrev P_are_free_marks : List Str := ["value", "points", "hosts"]
theorem sc_are_free_marks : FnScope N_are_free_marks P_are_free_marks (defScope s_are_free_marks) := ⟨rfl, rfl, rfl, by decide +kernel, rfl, by decide +kernel, by decide +kernel⟩
theorem ok_are_free_marks {P : Program} {w : World} {K : PySem.W.Frag} {mg : Str → Option Value} {base : Heap} {C f : Addr} {fd : FuncData} (T : Tx K mg C) (F_is_ascending : Fok P w K mg base "is_ascending" 1 1 (sd_is_ascending C)) (F_is_from_to : Fok P w K mg base "is_from_to" 2 3 (sd_is_from_to C))
    (F : FunD K "are_free_marks" "are_free_marks" (defArgs s_are_free_marks) (defBody s_are_free_marks) (defScope s_are_free_marks) [] [] f fd) (hk : Keeps N_are_free_marks 3 (sd_are_free_marks C) (db_are_free_marks C)) : FnOk P w K mg base (L2.CX P w) 3 f fd P_are_free_marks (spOf K 3 (sd_are_free_marks C)) := 
  okD F sc_are_free_marks rfl (fun cdv A fr s H E hr => (bd_cons (sd_if (td_w (wd_or (td_not (td_tru (pd_isi (vr 0) T.isinstance T.tuple (by decide +kernel)))) (wd_or1 (td_not (td_chn opd_le opd_le pd_int (pd_callB (cd_len) (by rfl) T.len (by decide +kernel) (ad_cons (vr 0) ad_nil)) (pd_cint T.c_MOST_MARKS)))))) (bd_one (sd_ret pd_bl)) bd_nil)
      (bd_cons (sd_if (td_w (wd_or (td_not (td_tru (pd_callB (cd_all rfl) (by rfl) T.all (by decide +kernel) (ad_cons (pd_lc (own := [("mark", 3)]) rfl sc_are_free_marks.nd (id_seq (vr 0)) (blkOk_by (N := N_are_free_marks) (sc := (defScope s_are_free_marks)) (by decide +kernel)) (fun _ _ _ _ _ => (gw_name (i := 3) sc_are_free_marks.nd)) (fun _ _ _ _ _ => tsd_nil) (fun _ _ _ _ _ => (pd_fn F_is_from_to (hr.mono (by decide)) takes0 (ad_cons (vr 3) (ad_cons pd_int (ad_cons (pd_op opd_sub (vr 1) pd_int) ad_nil)))))) ad_nil)))) (wd_or1 (td_not (td_tru (pd_fn F_is_ascending (hr.mono (by decide)) tkF (ad_cons (vr 0) ad_nil))))))) (bd_one (sd_ret pd_bl)) bd_nil)
      (bd_one (sd_ret (pd_not (pd_callB (cd_any rfl) (by rfl) T.any (by decide +kernel) (ad_cons (pd_lc2 (own := [("host", 4), ("mark", 3)]) (vs1 := [3]) rfl sc_are_free_marks.nd (id_seq (vr 2)) (blkOk_by (N := N_are_free_marks) (sc := (defScope s_are_free_marks)) (by decide +kernel)) (by decide) (fun _ _ _ _ _ => (gw_name (i := 4) sc_are_free_marks.nd)) (fun _ _ _ _ _ => tsd_nil) (fun _ _ _ _ _ => (id_seq (vr 0))) (fun _ _ _ _ _ => (gw_name (i := 3) sc_are_free_marks.nd)) (fun _ _ _ _ _ => tsd_nil) (fun _ _ _ _ _ => (pd_cmp opd_in (vr 3) (pd_ix ixd (vr 4) pd_int (fun _ _ => rfl)) (by rfl)))) ad_nil)))))))) hk
abbrev P_new_racks_first : List Str := ["ring", "walk"]
theorem sc_new_racks_first : FnScope N_new_racks_first P_new_racks_first (defScope s_new_racks_first) := ⟨rfl, rfl, rfl, by decide +kernel, rfl, by decide +kernel, by decide +kernel⟩
theorem ok_new_racks_first {P : Program} {w : World} {K : PySem.W.Frag} {mg : Str → Option Value} {base : Heap} {C f : Addr} {fd : FuncData} (T : Tx K mg C) (P_Ring_hosts : Pok P w K mg base C "hosts" 1 (sd_Ring_hosts C))
    (F : FunD K "new_racks_first" "new_racks_first" (defArgs s_new_racks_first) (defBody s_new_racks_first) (defScope s_new_racks_first) [] [] f fd) (hk : Keeps N_new_racks_first 2 (sd_new_racks_first C) (db_new_racks_first C)) : FnOk P w K mg base (L2.CX P w) 3 f fd P_new_racks_first (spOf K 2 (sd_new_racks_first C)) := 
  okD F sc_new_racks_first rfl (fun cdv A fr s H E hr => (bd_cons (sd_setDc 2 (own := [("name", 6), ("rack", 7), ("_", 8)]) rfl sc_new_racks_first.nd (sw_trueD rfl rfl rfl (by decide +kernel)) (id_seq (pd_prop P_Ring_hosts (hr.mono (by decide)) (vr 0))) (blkOk_by (N := N_new_racks_first) (sc := (defScope s_new_racks_first)) (by decide +kernel)) (fun _ _ _ _ _ => (gw_tup (n := 3) rfl (gws_cons (gw_name (i := 6) sc_new_racks_first.nd) (gws_cons (gw_name (i := 7) sc_new_racks_first.nd) (gws_cons (gw_name (i := 8) sc_new_racks_first.nd) gws_nil))))) (fun _ _ _ _ _ => tsd_nil) (fun _ _ _ _ _ => (vr 6)) (fun _ _ _ _ _ => (vr 7)))
      (bd_cons (sd_set 3 sc_new_racks_first.nd (pd_lstC ad_nil))
      (bd_cons (sd_set 4 sc_new_racks_first.nd (pd_lstC ad_nil))
      (bd_cons (sd_set 5 sc_new_racks_first.nd (pd_lstC ad_nil))
      (bd_cons (sd_for poF rfl (id_seq (vr 1)) (gd_name (i := 6) sc_new_racks_first.nd) (bd_cons (sd_set 7 sc_new_racks_first.nd (pd_dget (hu_of hr) (vr 2) (vr 6) (fun _ _ => rfl)))
      (bd_one (sd_if (td_cmp opd_in (vr 7) (vr 3) (by rfl)) (bd_one (sd_expr (pd_app (vr 5) (ad_cons (vr 6) ad_nil)))) (bd_cons (sd_expr (pd_app (vr 3) (ad_cons (vr 7) ad_nil)))
      (bd_one (sd_expr (pd_app (vr 4) (ad_cons (vr 6) ad_nil)))))))))
      (bd_one (sd_ret (pd_callTy (cd_tuple) (by rfl) T.tuple (by decide +kernel) (ad_cons (pd_op opd_add (vr 4) (vr 5)) ad_nil)))))))))) hk
abbrev P_check_point : List Str := ["ring", "point"]
theorem sc_check_point : FnScope N_check_point P_check_point (defScope s_check_point) := ⟨rfl, rfl, rfl, by decide +kernel, rfl, by decide +kernel, by decide +kernel⟩
theorem ok_check_point {P : Program} {w : World} {K : PySem.W.Frag} {mg : Str → Option Value} {base : Heap} {C f : Addr} {fd : FuncData} (T : Tx K mg C) (P_Ring_points : Pok P w K mg base C "points" 1 (sd_Ring_points C)) (F_is_from_to : Fok P w K mg base "is_from_to" 2 3 (sd_is_from_to C))
    (F : FunD K "check_point" "check_point" (defArgs s_check_point) (defBody s_check_point) (defScope s_check_point) [] [] f fd) (hk : Keeps N_check_point 2 (sd_check_point C) (db_check_point C)) : FnOk P w K mg base (L2.CX P w) 3 f fd P_check_point (spOf K 2 (sd_check_point C)) := 
  okD F sc_check_point rfl (fun cdv A fr s H E hr => (bd_one (sd_if (td_not (td_tru (pd_fn F_is_from_to (hr.mono (by decide)) tkF (ad_cons (vr 1) (ad_cons pd_int (ad_cons (pd_op opd_sub (pd_prop P_Ring_points (hr.mono (by decide)) (vr 0)) pd_int) ad_nil)))))) (bd_one sd_never) bd_nil))) hk
abbrev P_Ring___contains__ : List Str := ["self", "x"]
theorem sc_Ring___contains__ : FnScope N_Ring___contains__ P_Ring___contains__ (defScope s_Ring___contains__) := ⟨rfl, rfl, rfl, by decide +kernel, rfl, by decide +kernel, by decide +kernel⟩
theorem ok_Ring___contains__ {P : Program} {w : World} {K : PySem.W.Frag} {mg : Str → Option Value} {base : Heap} {C f : Addr} {fd : FuncData} (T : Tx K mg C) (P_Ring_names : Pok P w K mg base C "names" 1 (sd_Ring_names C)) (F_is_word_of : Fok P w K mg base "is_word_of" 1 2 (sd_is_word_of C))
    (F : FunD K "__contains__" "Ring.__contains__" (defArgs s_Ring___contains__) (defBody s_Ring___contains__) (defScope s_Ring___contains__) [] [] f fd) (hk : Keeps N_Ring___contains__ 2 (sd_Ring___contains__ C) (db_Ring___contains__ C)) : FnOk P w K mg base (L2.CX P w) 3 f fd P_Ring___contains__ (spOf K 2 (sd_Ring___contains__ C)) := 
  okD F sc_Ring___contains__ rfl (fun cdv A fr s H E hr => (bd_one (sd_ret (pd_fn F_is_word_of (hr.mono (by decide)) tkF (ad_cons (vr 1) (ad_cons (pd_prop P_Ring_names (hr.mono (by decide)) (vr 0)) ad_nil)))))) hk
abbrev P_written_host : List Str := ["row"]
theorem sc_written_host : FnScope N_written_host P_written_host (defScope s_written_host) := ⟨rfl, rfl, rfl, by decide +kernel, rfl, by decide +kernel, by decide +kernel⟩
theorem ok_written_host {P : Program} {w : World} {K : PySem.W.Frag} {mg : Str → Option Value} {base : Heap} {C f : Addr} {fd : FuncData} (T : Tx K mg C) (F_written_number : Fok P w K mg base "written_number" 2 1 (sd_written_number C))
    (F : FunD K "written_host" "written_host" (defArgs s_written_host) (defBody s_written_host) (defScope s_written_host) [] [] f fd) (hk : Keeps N_written_host 1 (sd_written_host C) (db_written_host C)) : FnOk P w K mg base (L2.CX P w) 3 f fd P_written_host (spOf K 1 (sd_written_host C)) := 
  okD F sc_written_host rfl (fun cdv A fr s H E hr => (bd_cons (sd_set 1 sc_written_host.nd (pd_split (vr 0) pd_str))
      (bd_cons (sd_if (td_w (wd_or (td_cmp (opd_ne hr.units) (pd_ix ixd (vr 1) pd_int (fun _ _ => rfl)) pd_str (nomark _)) (wd_or1 (td_cmp opd_lt (pd_callB (cd_len) (by rfl) T.len (by decide +kernel) (ad_cons (vr 1) ad_nil)) pd_int (nomark _))))) (bd_one (sd_ret pd_non)) bd_nil)
      (bd_one (sd_ret (pd_tup (ad_cons (pd_ix ixd (vr 1) pd_int (fun _ _ => rfl)) (ad_cons (pd_ix ixd (vr 1) pd_int (fun _ _ => rfl)) (ad_cons (pd_callTy (cd_tuple) (by rfl) T.tuple (by decide +kernel) (ad_cons (pd_lc (own := [("word", 2)]) rfl sc_written_host.nd (id_seq (pd_slice sld (vr 1) (od_some pd_int) od_no)) (blkOk_by (N := N_written_host) (sc := (defScope s_written_host)) (by decide +kernel)) (fun _ _ _ _ _ => (gw_name (i := 2) sc_written_host.nd)) (fun _ _ _ _ _ => tsd_nil) (fun _ _ _ _ _ => (pd_fn F_written_number (hr.mono (by decide)) takes0 (ad_cons (vr 2) ad_nil)))) ad_nil)) ad_nil))))))))) hk
abbrev P_width : List Str := ["_law_keg"]
theorem sc_width : FnScope N_width P_width (defScope s_width) := ⟨rfl, rfl, rfl, by decide +kernel, rfl, by decide +kernel, by decide +kernel⟩
theorem ok_width {P : Program} {w : World} {K : PySem.W.Frag} {mg : Str → Option Value} {base : Heap} {C f : Addr} {fd : FuncData} (T : Tx K mg C) (F_dip : Fok P w K mg base "_law_dip" 1 2 (sd_dip C)) (F_vast : Fok P w K mg base "_law_vast" 2 2 (sd_vast C))
    (F : FunD K "_law_width" "_law_width" (defArgs s_width) (defBody s_width) (defScope s_width) [] [] f fd) (hk : Keeps N_width 1 (sd_width C) (db_width C)) : FnOk P w K mg base (L2.CX P w) 3 f fd P_width (spOf K 1 (sd_width C)) := 
  okD F sc_width rfl (fun cdv A fr s H E hr => (bd_cons (sd_set 1 sc_width.nd (pd_fn F_dip (hr.mono (by decide)) tkF (ad_cons (vr 0) (ad_cons pd_int ad_nil))))
      (bd_cons (sd_if (td_cmp opd_lt (vr 1) pd_int (nomark _)) (bd_one (sd_ret (pd_op opd_add pd_int (pd_fn F_dip (hr.mono (by decide)) tkF (ad_cons (vr 0) (ad_cons pd_int ad_nil)))))) bd_nil)
      (bd_cons (sd_if (td_cmp opd_lt (vr 1) pd_int (nomark _)) (bd_one (sd_ret (pd_ix ixd (pd_lst (ad_cons (pd_op opd_pow pd_int pd_int) (ad_cons (pd_op opd_sub (pd_op opd_pow pd_int pd_int) pd_int) ad_nil))) (pd_op opd_sub (vr 1) pd_int) (fun _ _ => rfl)))) bd_nil)
      (bd_one (sd_ret (pd_if (td_cmp (opd_eq hr.units) (vr 1) pd_int (nomark _)) (pd_op opd_add pd_int (pd_fn F_dip (hr.mono (by decide)) tkF (ad_cons (vr 0) (ad_cons (pd_op opd_pow pd_int pd_int) ad_nil)))) (pd_op opd_add pd_int (pd_fn F_vast (hr.mono (by decide)) tkF (ad_cons (vr 0) (ad_cons (pd_op opd_pow pd_int pd_int) ad_nil))))))))))) hk
abbrev P_titles : List Str := ["_law_keg", "_law_many"]
theorem sc_titles : FnScope N_titles P_titles (defScope s_titles) := ⟨rfl, rfl, rfl, by decide +kernel, rfl, by decide +kernel, by decide +kernel⟩
theorem ok_titles {P : Program} {w : World} {K : PySem.W.Frag} {mg : Str → Option Value} {base : Heap} {C f : Addr} {fd : FuncData} (T : Tx K mg C) (F_dip : Fok P w K mg base "_law_dip" 1 2 (sd_dip C)) (F_title : Fok P w K mg base "_law_title" 3 1 (sd_title C))
    (F : FunD K "_law_titles" "_law_titles" (defArgs s_titles) (defBody s_titles) (defScope s_titles) [] [] f fd) (hk : Keeps N_titles 2 (sd_titles C) (db_titles C)) : FnOk P w K mg base (L2.CX P w) 4 f fd P_titles (spOf K 2 (sd_titles C)) := 
  okD F sc_titles rfl (fun cdv A fr s H E hr => (bd_cons (sd_asg (pd_tup (ad_cons (pd_lst (ad_cons pd_str (ad_cons pd_str (ad_cons pd_str (ad_cons pd_str (ad_cons pd_str (ad_cons pd_str (ad_cons pd_str (ad_cons pd_str (ad_cons pd_str (ad_cons pd_str (ad_cons pd_str (ad_cons pd_str ad_nil))))))))))))) (ad_cons (pd_lstC ad_nil) ad_nil))) (gd_tup (n := 2) rfl (gds_cons (gd_name (i := 2) sc_titles.nd) (gds_cons (gd_name (i := 3) sc_titles.nd) gds_nil))))
      (bd_cons (sd_for poF rfl (id_rng1 (by rfl) T.range (ad_cons (vr 1) ad_nil)) (gd_name (i := 4) sc_titles.nd) (bd_cons (sd_set 5 sc_titles.nd (pd_fn F_title (hr.mono (by decide)) tkF (ad_cons (vr 0) ad_nil)))
      (bd_cons (sd_if (td_w (wd_and (td_cmp (opd_ne hr.units) (vr 3) (pd_lst ad_nil) (nomark _)) (wd_and1 (td_cmp (opd_eq hr.units) (pd_fn F_dip (hr.mono (by decide)) tkF (ad_cons (vr 0) (ad_cons pd_int ad_nil))) pd_int (nomark _))))) (bd_one (sd_set 5 sc_titles.nd (pd_op opd_add (pd_slice sld (pd_ix ixd (vr 3) pd_int (fun _ _ => rfl)) od_no (od_some pd_int)) (pd_ix ixd pd_str (vr 4) (fun _ _ => rfl))))) bd_nil)
      (bd_one (sd_expr (pd_app (vr 3) (ad_cons (pd_ix ixd (pd_lc (own := [("_law_each", 6)]) rfl sc_titles.nd (id_seq (pd_op opd_add (pd_lst (ad_cons (vr 5) ad_nil)) (vr 2))) (blkOk_by (N := N_titles) (sc := (defScope s_titles)) (by decide +kernel)) (fun _ _ _ _ _ => (gw_name (i := 6) sc_titles.nd)) (fun _ _ _ _ _ => (tsd_one (td_cmp opd_ni (vr 6) (vr 3) (by rfl)))) (fun _ _ _ _ _ => (vr 6))) pd_int (fun _ _ => rfl)) ad_nil)))))))
      (bd_one (sd_retF (vr 3)))))) hk
abbrev P_is_next_host : List Str := ["value", "points", "hosts"]
theorem sc_is_next_host : FnScope N_is_next_host P_is_next_host (defScope s_is_next_host) := ⟨rfl, rfl, rfl, by decide +kernel, rfl, by decide +kernel, by decide +kernel⟩
theorem ok_is_next_host {P : Program} {w : World} {K : PySem.W.Frag} {mg : Str → Option Value} {base : Heap} {C f : Addr} {fd : FuncData} (T : Tx K mg C) (F_are_free_marks : Fok P w K mg base "are_free_marks" 3 3 (sd_are_free_marks C)) (F_is_free_name : Fok P w K mg base "is_free_name" 2 2 (sd_is_free_name C)) (F_is_name : Fok P w K mg base "is_name" 1 1 (sd_is_name C))
    (F : FunD K "is_next_host" "is_next_host" (defArgs s_is_next_host) (defBody s_is_next_host) (defScope s_is_next_host) [] [] f fd) (hk : Keeps N_is_next_host 3 (sd_is_next_host C) (db_is_next_host C)) : FnOk P w K mg base (L2.CX P w) 4 f fd P_is_next_host (spOf K 3 (sd_is_next_host C)) := 
  okD F sc_is_next_host rfl (fun cdv A fr s H E hr => (bd_cons (sd_if (td_w (wd_or (td_not (td_tru (pd_isi (vr 0) T.isinstance T.tuple (by decide +kernel)))) (wd_or1 (td_cmp (opd_ne hr.units) (pd_callB (cd_len) (by rfl) T.len (by decide +kernel) (ad_cons (vr 0) ad_nil)) pd_int (nomark _))))) (bd_one (sd_ret pd_bl)) bd_nil)
      (bd_cons (sd_asg (vr 0) (gd_tup (n := 3) rfl (gds_cons (gd_name (i := 3) sc_is_next_host.nd) (gds_cons (gd_name (i := 4) sc_is_next_host.nd) (gds_cons (gd_name (i := 5) sc_is_next_host.nd) gds_nil)))))
      (bd_one (sd_ret (pd_and (pd_fn F_is_free_name (hr.mono (by decide)) tkF (ad_cons (vr 3) (ad_cons (vr 2) ad_nil))) (pd_and (pd_fn F_is_name (hr.mono (by decide)) tkF (ad_cons (vr 4) ad_nil)) (pd_one (pd_fn F_are_free_marks (hr.mono (by decide)) tkF (ad_cons (vr 5) (ad_cons (vr 1) (ad_cons (vr 2) ad_nil)))))))))))) hk
abbrev P_keepers_in : List Str := ["ring", "walk"]
theorem sc_keepers_in : FnScope N_keepers_in P_keepers_in (defScope s_keepers_in) := ⟨rfl, rfl, rfl, by decide +kernel, rfl, by decide +kernel, by decide +kernel⟩
theorem ok_keepers_in {P : Program} {w : World} {K : PySem.W.Frag} {mg : Str → Option Value} {base : Heap} {C f : Addr} {fd : FuncData} (T : Tx K mg C) (P_Ring_factor : Pok P w K mg base C "factor" 1 (sd_Ring_factor C)) (P_Ring_spread : Pok P w K mg base C "spread" 1 (sd_Ring_spread C)) (F_new_racks_first : Fok P w K mg base "new_racks_first" 3 2 (sd_new_racks_first C))
    (F : FunD K "keepers_in" "keepers_in" (defArgs s_keepers_in) (defBody s_keepers_in) (defScope s_keepers_in) [] [] f fd) (hk : Keeps N_keepers_in 2 (sd_keepers_in C) (db_keepers_in C)) : FnOk P w K mg base (L2.CX P w) 4 f fd P_keepers_in (spOf K 2 (sd_keepers_in C)) := 
  okD F sc_keepers_in rfl (fun cdv A fr s H E hr => (bd_cons (sd_set 2 sc_keepers_in.nd (pd_if (td_cmp (opd_eq hr.units) (pd_prop P_Ring_spread (hr.mono (by decide)) (vr 0)) pd_str (nomark _)) (pd_fn F_new_racks_first (hr.mono (by decide)) tkF (ad_cons (vr 0) (ad_cons (vr 1) ad_nil))) (vr 1)))
      (bd_one (sd_ret (pd_slice sld (vr 2) od_no (od_some (pd_prop P_Ring_factor (hr.mono (by decide)) (vr 0)))))))) hk
abbrev P_Ring_walk : List Str := ["self", "point"]
theorem sc_Ring_walk : FnScope N_Ring_walk P_Ring_walk (defScope s_Ring_walk) := ⟨rfl, rfl, rfl, by decide +kernel, rfl, by decide +kernel, by decide +kernel⟩
theorem ok_Ring_walk {P : Program} {w : World} {K : PySem.W.Frag} {mg : Str → Option Value} {base : Heap} {C f : Addr} {fd : FuncData} (T : Tx K mg C) (F_Ring__way : Mok P w K mg base C "_way" 1 3 (sd_Ring__way C)) (F_check_point : Fok P w K mg base "check_point" 3 2 (sd_check_point C))
    (F : FunD K "walk" "Ring.walk" (defArgs s_Ring_walk) (defBody s_Ring_walk) (defScope s_Ring_walk) [] [] f fd) (hk : Keeps N_Ring_walk 2 (sd_Ring_walk C) (db_Ring_walk C)) : FnOk P w K mg base (L2.CX P w) 4 f fd P_Ring_walk (spOf K 2 (sd_Ring_walk C)) := 
  okD F sc_Ring_walk rfl (fun cdv A fr s H E hr => (bd_cons (sd_expr (pd_fn F_check_point (hr.mono (by decide)) tkF (ad_cons (vr 0) (ad_cons (vr 1) ad_nil))))
      (bd_cons (sd_set 2 sc_Ring_walk.nd (pd_callB (cd_sortP) (by rfl) T.sorted (by decide +kernel) (ad_cons (pd_lc (own := [("host", 3)]) rfl sc_Ring_walk.nd (id_seq (pd_fld (vr 0) T.cRing (T.na "_hosts" (by decide)))) (blkOk_by (N := N_Ring_walk) (sc := (defScope s_Ring_walk)) (by decide +kernel)) (fun _ _ _ _ _ => (gw_name (i := 3) sc_Ring_walk.nd)) (fun _ _ _ _ _ => tsd_nil) (fun _ _ _ _ _ => (pd_tup (ad_cons (pd_meth F_Ring__way (hr.mono (by decide)) takes0 (vr 0) (ad_cons (vr 1) (ad_cons (pd_ix ixd (vr 3) pd_int (fun _ _ => rfl)) ad_nil))) (ad_cons (pd_ix ixd (vr 3) pd_int (fun _ _ => rfl)) ad_nil))))) ad_nil)))
      (bd_one (sd_ret (pd_callTy (cd_tuple) (by rfl) T.tuple (by decide +kernel) (ad_cons (pd_lc (own := [("_", 4), ("name", 5)]) rfl sc_Ring_walk.nd (id_seq (vr 2)) (blkOk_by (N := N_Ring_walk) (sc := (defScope s_Ring_walk)) (by decide +kernel)) (fun _ _ _ _ _ => (gw_tup (n := 2) rfl (gws_cons (gw_name (i := 4) sc_Ring_walk.nd) (gws_cons (gw_name (i := 5) sc_Ring_walk.nd) gws_nil)))) (fun _ _ _ _ _ => tsd_nil) (fun _ _ _ _ _ => (vr 5))) ad_nil))))))) hk
abbrev P_check_name : List Str := ["ring", "name"]
theorem sc_check_name : FnScope N_check_name P_check_name (defScope s_check_name) := ⟨rfl, rfl, rfl, by decide +kernel, rfl, by decide +kernel, by decide +kernel⟩
theorem ok_check_name {P : Program} {w : World} {K : PySem.W.Frag} {mg : Str → Option Value} {base : Heap} {C f : Addr} {fd : FuncData} (T : Tx K mg C) (F_Ring___contains__ : Mok P w K mg base C "__contains__" 3 2 (sd_Ring___contains__ C))
    (F : FunD K "check_name" "check_name" (defArgs s_check_name) (defBody s_check_name) (defScope s_check_name) [] [] f fd) (hk : Keeps N_check_name 2 (sd_check_name C) (db_check_name C)) : FnOk P w K mg base (L2.CX P w) 4 f fd P_check_name (spOf K 2 (sd_check_name C)) := 
  okD F sc_check_name rfl (fun cdv A fr s H E hr => (bd_one (sd_if (td_cmp (opd_niO F_Ring___contains__ (hr.mono (by decide))) (vr 1) (vr 0) (by rfl)) (bd_one sd_never) bd_nil))) hk
abbrev P_yards : List Str := ["_law_keg", "_law_many"]
theorem sc_yards : FnScope N_yards P_yards (defScope s_yards) := ⟨rfl, rfl, rfl, by decide +kernel, rfl, by decide +kernel, by decide +kernel⟩
theorem ok_yards {P : Program} {w : World} {K : PySem.W.Frag} {mg : Str → Option Value} {base : Heap} {C f : Addr} {fd : FuncData} (T : Tx K mg C) (F_dip : Fok P w K mg base "_law_dip" 1 2 (sd_dip C)) (F_of : Fok P w K mg base "_law_of" 2 2 (sd_of C)) (F_titles : Fok P w K mg base "_law_titles" 4 2 (sd_titles C))
    (F : FunD K "_law_yards" "_law_yards" (defArgs s_yards) (defBody s_yards) (defScope s_yards) [] [] f fd) (hk : Keeps N_yards 2 (sd_yards C) (db_yards C)) : FnOk P w K mg base (L2.CX P w) 5 f fd P_yards (spOf K 2 (sd_yards C)) := 
  okD F sc_yards rfl (fun cdv A fr s H E hr => (bd_cons (sd_set 2 sc_yards.nd (pd_fn F_titles (hr.mono (by decide)) tkF (ad_cons (vr 0) (ad_cons (pd_op opd_add pd_int (pd_fn F_dip (hr.mono (by decide)) tkF (ad_cons (vr 0) (ad_cons pd_int ad_nil)))) ad_nil))))
      (bd_one (sd_ret (pd_lc (own := [("_law_turn", 3)]) rfl sc_yards.nd (id_rng1 (by rfl) T.range (ad_cons (vr 1) ad_nil)) (blkOk_by (N := N_yards) (sc := (defScope s_yards)) (by decide +kernel)) (fun _ _ _ _ _ => (gw_name (i := 3) sc_yards.nd)) (fun _ _ _ _ _ => tsd_nil) (fun _ _ _ _ _ => (pd_fn F_of (hr.mono (by decide)) takes0 (ad_cons (vr 0) (ad_cons (vr 2) ad_nil))))))))) hk
abbrev P_check_hosts : List Str := ["points", "hosts"]
theorem sc_check_hosts : FnScope N_check_hosts P_check_hosts (defScope s_check_hosts) := ⟨rfl, rfl, rfl, by decide +kernel, rfl, by decide +kernel, by decide +kernel⟩
theorem ok_check_hosts {P : Program} {w : World} {K : PySem.W.Frag} {mg : Str → Option Value} {base : Heap} {C f : Addr} {fd : FuncData} (T : Tx K mg C) (F_is_next_host : Fok P w K mg base "is_next_host" 4 3 (sd_is_next_host C))
    (F : FunD K "check_hosts" "check_hosts" (defArgs s_check_hosts) (defBody s_check_hosts) (defScope s_check_hosts) [] [] f fd) (hk : Keeps N_check_hosts 2 (sd_check_hosts C) (db_check_hosts C)) : FnOk P w K mg base (L2.CX P w) 5 f fd P_check_hosts (spOf K 2 (sd_check_hosts C)) := 
  okD F sc_check_hosts rfl (fun cdv A fr s H E hr => (bd_cons (sd_if (td_w (wd_or (td_not (td_tru (pd_isi (vr 1) T.isinstance T.tuple (by decide +kernel)))) (wd_or1 (td_cmp (opd_eq hr.units) (pd_callB (cd_len) (by rfl) T.len (by decide +kernel) (ad_cons (vr 1) ad_nil)) pd_int (nomark _))))) (bd_one sd_never) bd_nil)
      (bd_one (sd_for poF rfl (id_enum (by rfl) T.enumerate (ad_cons (vr 1) ad_nil)) (gd_tup (n := 2) rfl (gds_cons (gd_name (i := 2) sc_check_hosts.nd) (gds_cons (gd_name (i := 3) sc_check_hosts.nd) gds_nil))) (bd_one (sd_if (td_w (wd_or (td_cmp (opd_eq hr.units) (vr 2) (pd_cint T.c_MOST_HOSTS) (nomark _)) (wd_or1 (td_not (td_tru (pd_fn F_is_next_host (hr.mono (by decide)) tkF (ad_cons (vr 3) (ad_cons (vr 0) (ad_cons (pd_slice sld (vr 1) od_no (od_some (vr 2))) ad_nil))))))))) (bd_one sd_never) bd_nil)))))) hk
abbrev P_walks : List Str := ["ring"]
theorem sc_walks : FnScope N_walks P_walks (defScope s_walks) := ⟨rfl, rfl, rfl, by decide +kernel, rfl, by decide +kernel, by decide +kernel⟩
theorem ok_walks {P : Program} {w : World} {K : PySem.W.Frag} {mg : Str → Option Value} {base : Heap} {C f : Addr} {fd : FuncData} (T : Tx K mg C) (P_Ring_hosts : Pok P w K mg base C "hosts" 1 (sd_Ring_hosts C)) (F_Ring_walk : Mok P w K mg base C "walk" 4 2 (sd_Ring_walk C)) (F_ahead : Fok P w K mg base "ahead" 1 2 (sd_ahead C))
    (F : FunD K "walks" "walks" (defArgs s_walks) (defBody s_walks) (defScope s_walks) [] [] f fd) (hk : Keeps N_walks 1 (sd_walks C) (db_walks C)) : FnOk P w K mg base (L2.CX P w) 5 f fd P_walks (spOf K 1 (sd_walks C)) := 
  okD F sc_walks rfl (fun cdv A fr s H E hr => (bd_cons (sd_set 1 sc_walks.nd (pd_sortPR (by rfl) T.sorted (pd_lc2 (own := [("name", 5), ("_", 6), ("marks", 7), ("mark", 4)]) (vs1 := [4]) rfl sc_walks.nd (id_seq (pd_prop P_Ring_hosts (hr.mono (by decide)) (vr 0))) (blkOk_by (N := N_walks) (sc := (defScope s_walks)) (by decide +kernel)) (by decide) (fun _ _ _ _ _ => (gw_tup (n := 3) rfl (gws_cons (gw_name (i := 5) sc_walks.nd) (gws_cons (gw_name (i := 6) sc_walks.nd) (gws_cons (gw_name (i := 7) sc_walks.nd) gws_nil))))) (fun _ _ _ _ _ => tsd_nil) (fun _ _ _ _ _ => (id_seq (vr 7))) (fun _ _ _ _ _ => (gw_name (i := 4) sc_walks.nd)) (fun _ _ _ _ _ => tsd_nil) (fun _ _ _ _ _ => (pd_tup (ad_cons (vr 4) (ad_cons (vr 5) ad_nil)))))))
      (bd_cons (sd_set 2 sc_walks.nd (pd_meth F_Ring_walk (hr.mono (by decide)) tkF (vr 0) (ad_cons (pd_ix ixd (pd_ix ixd (vr 1) pd_int (fun _ _ => rfl)) pd_int (fun _ _ => rfl)) ad_nil)))
      (bd_cons (sd_set 3 sc_walks.nd (pd_lstC ad_nil))
      (bd_cons (sd_for poF rfl (id_seq (vr 1)) (gd_tup (n := 2) rfl (gds_cons (gd_name (i := 4) sc_walks.nd) (gds_cons (gd_name (i := 5) sc_walks.nd) gds_nil))) (bd_cons (sd_set 2 sc_walks.nd (pd_fn F_ahead (hr.mono (by decide)) tkF (ad_cons (vr 5) (ad_cons (vr 2) ad_nil))))
      (bd_one (sd_expr (pd_app (vr 3) (ad_cons (pd_tup (ad_cons (vr 4) (ad_cons (vr 2) ad_nil))) ad_nil))))))
      (bd_one (sd_ret (pd_revL (vr 3))))))))) hk
abbrev P_band : List Str := ["_law_keg", "_law_size", "_law_most", "_law_each"]
theorem sc_band : FnScope N_band P_band (defScope s_band) := ⟨rfl, rfl, rfl, by decide +kernel, rfl, by decide +kernel, by decide +kernel⟩
theorem ok_band {P : Program} {w : World} {K : PySem.W.Frag} {mg : Str → Option Value} {base : Heap} {C f : Addr} {fd : FuncData} (T : Tx K mg C) (F_dip : Fok P w K mg base "_law_dip" 1 2 (sd_dip C)) (F_free : Fok P w K mg base "_law_free" 1 3 (sd_free C)) (F_place : Fok P w K mg base "_law_place" 3 3 (sd_place C)) (F_titles : Fok P w K mg base "_law_titles" 4 2 (sd_titles C)) (F_yards : Fok P w K mg base "_law_yards" 5 2 (sd_yards C))
    (F : FunD K "_law_band" "_law_band" (defArgs s_band) (defBody s_band) (defScope s_band) [] [] f fd) (hk : Keeps N_band 4 (sd_band C) (db_band C)) : FnOk P w K mg base (L2.CX P w) 6 f fd P_band (spOf K 4 (sd_band C)) := 
  okD F sc_band rfl (fun cdv A fr s H E hr => (bd_cons (sd_par3 4 5 6 rfl sc_band.nd (ad_cons (pd_callB (cd_min2 rfl) (by rfl) T.min (by decide +kernel) (ad_cons (pd_op opd_add pd_int (pd_fn F_dip (hr.mono (by decide)) tkF (ad_cons (vr 0) (ad_cons (vr 2) ad_nil)))) (ad_cons (vr 1) ad_nil))) (ad_cons (pd_lstC ad_nil) (ad_cons (pd_lstC ad_nil) ad_nil))))
      (bd_cons (sd_par2 7 8 rfl sc_band.nd (ad_cons (pd_fn F_titles (hr.mono (by decide)) tkF (ad_cons (vr 0) (ad_cons (vr 4) ad_nil))) (ad_cons (pd_fn F_yards (hr.mono (by decide)) tkF (ad_cons (vr 0) (ad_cons (vr 4) ad_nil))) ad_nil)))
      (bd_cons (sd_for poF rfl (id_rng1 (by rfl) T.range (ad_cons (vr 4) ad_nil)) (gd_name (i := 9) sc_band.nd) (bd_cons (sd_par2 10 11 rfl sc_band.nd (ad_cons (pd_lstC ad_nil) (ad_cons (pd_op opd_sub (pd_op opd_sub (vr 1) (pd_callB (cd_len) (by rfl) T.len (by decide +kernel) (ad_cons (vr 5) ad_nil))) (pd_op opd_sub (pd_op opd_sub (vr 4) pd_int) (vr 9))) ad_nil)))
      (bd_cons (sd_for poF rfl (id_rng1 (by rfl) T.range (ad_cons (pd_callB (cd_min2 rfl) (by rfl) T.min (by decide +kernel) (ad_cons (pd_op opd_add pd_int (pd_fn F_dip (hr.mono (by decide)) tkF (ad_cons (vr 0) (ad_cons (vr 3) ad_nil)))) (ad_cons (vr 11) ad_nil))) ad_nil)) (gd_name (i := 12) sc_band.nd) (bd_cons (sd_set 13 sc_band.nd (pd_fn F_free (hr.mono (by decide)) tkF (ad_cons (vr 1) (ad_cons (vr 5) (ad_cons (pd_fn F_place (hr.mono (by decide)) tkF (ad_cons (vr 0) (ad_cons (vr 1) (ad_cons (vr 5) ad_nil)))) ad_nil)))))
      (bd_cons (sd_expr (pd_app (vr 10) (ad_cons (vr 13) ad_nil)))
      (bd_one (sd_expr (pd_app (vr 5) (ad_cons (vr 13) ad_nil)))))))
      (bd_one (sd_expr (pd_app (vr 6) (ad_cons (pd_tup (ad_cons (pd_ix ixd (vr 7) (vr 9) (fun _ _ => rfl)) (ad_cons (pd_ix ixd (vr 8) (vr 9) (fun _ _ => rfl)) (ad_cons (pd_callTy (cd_tuple) (by rfl) T.tuple (by decide +kernel) (ad_cons (pd_callB (cd_sortI) (by rfl) T.sorted (by decide +kernel) (ad_cons (vr 10) ad_nil)) ad_nil)) ad_nil)))) ad_nil)))))))
      (bd_one (sd_ret (pd_callTy (cd_tuple) (by rfl) T.tuple (by decide +kernel) (ad_cons (vr 6) ad_nil)))))))) hk
abbrev P_Ring___init__ : List Str := ["self", "points", "factor", "spread", "write", "read", "pending", "hosts"]
theorem sc_Ring___init__ : FnScope N_Ring___init__ P_Ring___init__ (defScope s_Ring___init__) := ⟨rfl, rfl, rfl, by decide +kernel, rfl, by decide +kernel, by decide +kernel⟩
theorem ok_Ring___init__ {P : Program} {w : World} {K : PySem.W.Frag} {mg : Str → Option Value} {base : Heap} {C f : Addr} {fd : FuncData} (T : Tx K mg C) (F_check_hosts : Fok P w K mg base "check_hosts" 5 2 (sd_check_hosts C)) (F_is_from_to : Fok P w K mg base "is_from_to" 2 3 (sd_is_from_to C)) (F_is_word_of : Fok P w K mg base "is_word_of" 1 2 (sd_is_word_of C))
    (F : FunD K "__init__" "Ring.__init__" (defArgs s_Ring___init__) (defBody s_Ring___init__) (defScope s_Ring___init__) [] [] f fd) (hk : Keeps N_Ring___init__ 8 (sd_Ring___init__ C) (db_Ring___init__ C)) : FnOk P w K mg base (L2.CX P w) 6 f fd P_Ring___init__ (spOf K 8 (sd_Ring___init__ C)) := 
  okD F sc_Ring___init__ rfl (fun cdv A fr s H E hr => (bd_cons (sd_if (td_not (td_tru (pd_fn F_is_from_to (hr.mono (by decide)) tkF (ad_cons (vr 1) (ad_cons pd_int (ad_cons (pd_cint T.c_MOST_POINTS) ad_nil)))))) (bd_one sd_never) bd_nil)
      (bd_cons (sd_if (td_not (td_tru (pd_fn F_is_from_to (hr.mono (by decide)) tkF (ad_cons (vr 2) (ad_cons pd_int (ad_cons (pd_cint T.c_MOST_FACTOR) ad_nil)))))) (bd_one sd_never) bd_nil)
      (bd_cons (sd_if (td_not (td_tru (pd_fn F_is_word_of (hr.mono (by decide)) tkF (ad_cons (vr 3) (ad_cons (pd_ctup T.c_SPREADS) ad_nil))))) (bd_one sd_never) bd_nil)
      (bd_cons (sd_if (td_not (td_tru (pd_fn F_is_from_to (hr.mono (by decide)) tkF (ad_cons (vr 4) (ad_cons pd_int (ad_cons (vr 2) ad_nil)))))) (bd_one sd_never) bd_nil)
      (bd_cons (sd_if (td_not (td_tru (pd_fn F_is_from_to (hr.mono (by decide)) tkF (ad_cons (vr 5) (ad_cons pd_int (ad_cons (vr 2) ad_nil)))))) (bd_one sd_never) bd_nil)
      (bd_cons (sd_if (td_not (td_tru (pd_fn F_is_word_of (hr.mono (by decide)) tkF (ad_cons (vr 6) (ad_cons (pd_ctup T.c_PENDINGS) ad_nil))))) (bd_one sd_never) bd_nil)
      (bd_cons (sd_expr (pd_fn F_check_hosts (hr.mono (by decide)) tkF (ad_cons (vr 1) (ad_cons (vr 7) ad_nil))))
      (bd_cons (sd_fset (vr 0) T.cRing (T.na "_points" (by decide)) (vr 1))
      (bd_cons (sd_fset (vr 0) T.cRing (T.na "_factor" (by decide)) (vr 2))
      (bd_cons (sd_fset (vr 0) T.cRing (T.na "_spread" (by decide)) (vr 3))
      (bd_cons (sd_fset (vr 0) T.cRing (T.na "_write" (by decide)) (vr 4))
      (bd_cons (sd_fset (vr 0) T.cRing (T.na "_read_number" (by decide)) (vr 5))
      (bd_cons (sd_fset (vr 0) T.cRing (T.na "_pending" (by decide)) (vr 6))
      (bd_one (sd_fset (vr 0) T.cRing (T.na "_hosts" (by decide)) (vr 7))))))))))))))))) hk
abbrev P_keepers_at : List Str := ["ring", "marks"]
theorem sc_keepers_at : FnScope N_keepers_at P_keepers_at (defScope s_keepers_at) := ⟨rfl, rfl, rfl, by decide +kernel, rfl, by decide +kernel, by decide +kernel⟩
theorem ok_keepers_at {P : Program} {w : World} {K : PySem.W.Frag} {mg : Str → Option Value} {base : Heap} {C f : Addr} {fd : FuncData} (T : Tx K mg C) (F_keepers_in : Fok P w K mg base "keepers_in" 4 2 (sd_keepers_in C)) (F_walks : Fok P w K mg base "walks" 5 1 (sd_walks C))
    (F : FunD K "keepers_at" "keepers_at" (defArgs s_keepers_at) (defBody s_keepers_at) (defScope s_keepers_at) [] [] f fd) (hk : Keeps N_keepers_at 2 (sd_keepers_at C) (db_keepers_at C)) : FnOk P w K mg base (L2.CX P w) 6 f fd P_keepers_at (spOf K 2 (sd_keepers_at C)) := 
  okD F sc_keepers_at rfl (fun cdv A fr s H E hr => (bd_cons (sd_setLc 2 (own := [("mark", 6), ("walk", 7)]) rfl sc_keepers_at.nd (sw_true rfl rfl rfl (by decide +kernel)) (id_seq (pd_fn F_walks (hr.mono (by decide)) tkF (ad_cons (vr 0) ad_nil))) (blkOk_by (N := N_keepers_at) (sc := (defScope s_keepers_at)) (by decide +kernel)) (fun _ _ _ _ _ => (gw_tup (n := 2) rfl (gws_cons (gw_name (i := 6) sc_keepers_at.nd) (gws_cons (gw_name (i := 7) sc_keepers_at.nd) gws_nil)))) (fun _ _ _ _ _ => tsd_nil) (fun _ _ _ _ _ => (pd_tup (ad_cons (vr 6) (ad_cons (pd_fn F_keepers_in (hr.mono (by decide)) takes0 (ad_cons (vr 0) (ad_cons (vr 7) ad_nil))) ad_nil)))))
      (bd_cons (sd_set 3 sc_keepers_at.nd (pd_callTy (cd_dictC rfl) (by rfl) T.dict (by decide +kernel) (ad_cons (vr 2) ad_nil)))
      (bd_cons (sd_set 4 sc_keepers_at.nd (pd_ix ixd (pd_ix ixd (vr 2) pd_int (fun _ _ => rfl)) pd_int (fun _ _ => rfl)))
      (bd_cons (sd_set 5 sc_keepers_at.nd (pd_lstC ad_nil))
      (bd_cons (sd_for poF rfl (id_rev (by rfl) T.reversed (pd_callTy (cd_list) (by rfl) T.list (by decide +kernel) (ad_cons (vr 1) ad_nil))) (gd_name (i := 6) sc_keepers_at.nd) (bd_cons (sd_set 4 sc_keepers_at.nd (pd_dget2 (hu_of hr) (vr 3) (vr 6) (vr 4) ⟨by rfl, by rfl, by rfl, by rfl⟩))
      (bd_one (sd_expr (pd_app (vr 5) (ad_cons (vr 4) ad_nil))))))
      (bd_one (sd_ret (pd_revL (vr 5)))))))))) hk
abbrev P_build : List Str := ["_law_keg", "_law_size", "_law_most", "_law_each"]
theorem sc_build : FnScope N_build P_build (defScope s_build) := ⟨rfl, rfl, rfl, by decide +kernel, rfl, by decide +kernel, by decide +kernel⟩
theorem ok_build {P : Program} {w : World} {K : PySem.W.Frag} {mg : Str → Option Value} {base : Heap} {C f : Addr} {fd : FuncData} (T : Tx K mg C) (F_band : Fok P w K mg base "_law_band" 6 4 (sd_band C)) (F_rule : Fok P w K mg base "_law_rule" 3 1 (sd_rule C))
    (F : FunD K "_law_build" "_law_build" (defArgs s_build) (defBody s_build) (defScope s_build) [] [] f fd) (hk : Keeps N_build 4 (sd_build C) (db_build C)) : FnOk P w K mg base (L2.CX P w) 7 f fd P_build (spOf K 4 (sd_build C)) := 
  okD F sc_build rfl (fun cdv A fr s H E hr => (bd_one (sd_ret (pd_op opd_add (pd_op opd_add (pd_lst (ad_cons (vr 1) ad_nil)) (pd_fn F_rule (hr.mono (by decide)) tkF (ad_cons (vr 0) ad_nil))) (pd_lst (ad_cons (pd_fn F_band (hr.mono (by decide)) tkF (ad_cons (vr 0) (ad_cons (vr 1) (ad_cons (vr 2) (ad_cons (vr 3) ad_nil))))) ad_nil)))))) hk
abbrev P_cells : List Str := ["ring"]
theorem sc_cells : FnScope N_cells P_cells (defScope s_cells) := ⟨rfl, rfl, rfl, by decide +kernel, rfl, by decide +kernel, by decide +kernel⟩
theorem ok_cells {P : Program} {w : World} {K : PySem.W.Frag} {mg : Str → Option Value} {base : Heap} {C f : Addr} {fd : FuncData} (T : Tx K mg C) (P_Ring_hosts : Pok P w K mg base C "hosts" 1 (sd_Ring_hosts C)) (P_Ring_points : Pok P w K mg base C "points" 1 (sd_Ring_points C)) (F_all_marks : Fok P w K mg base "all_marks" 1 1 (sd_all_marks C)) (F_arcs_up_to : Fok P w K mg base "arcs_up_to" 1 2 (sd_arcs_up_to C)) (F_check_ring : Fok P w K mg base "check_ring" 1 1 (sd_check_ring C)) (F_keepers_at : Fok P w K mg base "keepers_at" 6 2 (sd_keepers_at C))
    (F : FunD K "cells" "cells" (defArgs s_cells) (defBody s_cells) (defScope s_cells) [] [] f fd) (hk : Keeps N_cells 1 (sd_cells C) (db_cells C)) : FnOk P w K mg base (L2.CX P w) 7 f fd P_cells (spOf K 1 (sd_cells C)) := 
  okD F sc_cells rfl (fun cdv A fr s H E hr => (bd_cons (sd_expr (pd_fn F_check_ring (hr.mono (by decide)) tkF (ad_cons (vr 0) ad_nil)))
      (bd_cons (sd_set 1 sc_cells.nd (pd_fn F_all_marks (hr.mono (by decide)) tkF (ad_cons (pd_prop P_Ring_hosts (hr.mono (by decide)) (vr 0)) ad_nil)))
      (bd_cons (sd_set 2 sc_cells.nd (pd_fn F_arcs_up_to (hr.mono (by decide)) tkF (ad_cons (vr 1) (ad_cons (pd_prop P_Ring_points (hr.mono (by decide)) (vr 0)) ad_nil))))
      (bd_one (sd_ret (pd_callTy (cd_tuple) (by rfl) T.tuple (by decide +kernel) (ad_cons (pd_lc (own := [("keepers", 5), ("first", 3), ("many", 4)]) rfl sc_cells.nd (id_zip (by rfl) T.zip (ad_cons (vr 2) (ad_cons (pd_fn F_keepers_at (hr.mono (by decide)) tkF (ad_cons (vr 0) (ad_cons (vr 1) ad_nil))) ad_nil))) (blkOk_by (N := N_cells) (sc := (defScope s_cells)) (by decide +kernel)) (fun _ _ _ _ _ => (gw_tup (n := 2) rfl (gws_cons (gw_tup (n := 2) rfl (gws_cons (gw_name (i := 3) sc_cells.nd) (gws_cons (gw_name (i := 4) sc_cells.nd) gws_nil))) (gws_cons (gw_name (i := 5) sc_cells.nd) gws_nil)))) (fun _ _ _ _ _ => tsd_nil) (fun _ _ _ _ _ => (pd_tup (ad_cons (vr 3) (ad_cons (vr 4) (ad_cons (vr 5) ad_nil)))))) ad_nil)))))))) hk
abbrev P_plain : List Str := ["_law_frame"]
theorem sc_plain : FnScope N_plain P_plain (defScope s_plain) := ⟨rfl, rfl, rfl, by decide +kernel, rfl, by decide +kernel, by decide +kernel⟩
theorem ok_plain {P : Program} {w : World} {K : PySem.W.Frag} {mg : Str → Option Value} {base : Heap} {C f : Addr} {fd : FuncData} (T : Tx K mg C) (F_Ring : Kok P w K mg base "Ring" C 6 8 (sd_Ring___init__ C))
    (F : FunD K "_law_plain" "_law_plain" (defArgs s_plain) (defBody s_plain) (defScope s_plain) [] [] f fd) (hk : Keeps N_plain 1 (sd_plain C) (db_plain C)) : FnOk P w K mg base (L2.CX P w) 8 f fd P_plain (spOf K 1 (sd_plain C)) := 
  okD F sc_plain rfl (fun cdv A fr s H E hr => (bd_cons (sd_asg (vr 0) (gd_lst (n := 7) rfl (gds_cons (gd_name (i := 1) sc_plain.nd) (gds_cons (gd_name (i := 2) sc_plain.nd) (gds_cons (gd_name (i := 3) sc_plain.nd) (gds_cons (gd_name (i := 4) sc_plain.nd) (gds_cons (gd_name (i := 5) sc_plain.nd) (gds_cons (gd_name (i := 6) sc_plain.nd) (gds_cons (gd_name (i := 7) sc_plain.nd) gds_nil)))))))))
      (bd_one (sd_ret (pd_make F_Ring (hr.mono (by decide)) tkF (ad_cons (vr 1) (ad_cons (vr 2) (ad_cons (vr 3) (ad_cons (vr 4) (ad_cons (vr 5) (ad_cons (vr 6) (ad_cons (vr 7) ad_nil)))))))))))) hk
abbrev P_shares : List Str := ["ring"]
theorem sc_shares : FnScope N_shares P_shares (defScope s_shares) := ⟨rfl, rfl, rfl, by decide +kernel, rfl, by decide +kernel, by decide +kernel⟩
theorem ok_shares {P : Program} {w : World} {K : PySem.W.Frag} {mg : Str → Option Value} {base : Heap} {C f : Addr} {fd : FuncData} (T : Tx K mg C) (P_Ring_names : Pok P w K mg base C "names" 1 (sd_Ring_names C)) (F_cells : Fok P w K mg base "cells" 7 1 (sd_cells C))
    (F : FunD K "shares" "shares" (defArgs s_shares) (defBody s_shares) (defScope s_shares) [] [] f fd) (hk : Keeps N_shares 1 (sd_shares C) (db_shares C)) : FnOk P w K mg base (L2.CX P w) 8 f fd P_shares (spOf K 1 (sd_shares C)) := 
  okD F sc_shares rfl (fun cdv A fr s H E hr => (bd_cons (sd_set 1 sc_shares.nd (pd_fn F_cells (hr.mono (by decide)) tkF (ad_cons (vr 0) ad_nil)))
      (bd_one (sd_ret (pd_callTy (cd_tuple) (by rfl) T.tuple (by decide +kernel) (ad_cons (pd_lc (own := [("name", 2)]) rfl sc_shares.nd (id_seq (pd_prop P_Ring_names (hr.mono (by decide)) (vr 0))) (blkOk_by (N := N_shares) (sc := (defScope s_shares)) (by decide +kernel)) (fun _ _ _ _ _ => (gw_name (i := 2) sc_shares.nd)) (fun _ _ _ _ _ => tsd_nil) (fun _ _ _ _ _ => (pd_tup (ad_cons (vr 2) (ad_cons (pd_callB (cd_sum rfl) (by rfl) T.sum (by decide +kernel) (ad_cons (pd_lc (own := [("_", 3), ("many", 4), ("keepers", 5)]) rfl sc_shares.nd (id_seq (vr 1)) (blkOk_by (N := N_shares) (sc := { kind := .function, names := [(".0", .local), ("name", .cell), ("sum", .globalImplicit), ("rows", .cell)], isGenerator := false, isCoroutine := false }) (by decide +kernel)) (fun _ _ _ _ _ => (gw_tup (n := 3) rfl (gws_cons (gw_name (i := 3) sc_shares.nd) (gws_cons (gw_name (i := 4) sc_shares.nd) (gws_cons (gw_name (i := 5) sc_shares.nd) gws_nil))))) (fun _ _ _ _ _ => (tsd_one (td_cmp opd_in (vr 2) (vr 5) (by rfl)))) (fun _ _ _ _ _ => (vr 4))) ad_nil)) ad_nil))))) ad_nil)))))) hk
abbrev P_leads : List Str := ["ring", "name"]
theorem sc_leads : FnScope N_leads P_leads (defScope s_leads) := ⟨rfl, rfl, rfl, by decide +kernel, rfl, by decide +kernel, by decide +kernel⟩
theorem ok_leads {P : Program} {w : World} {K : PySem.W.Frag} {mg : Str → Option Value} {base : Heap} {C f : Addr} {fd : FuncData} (T : Tx K mg C) (F_cells : Fok P w K mg base "cells" 7 1 (sd_cells C)) (F_check_name : Fok P w K mg base "check_name" 4 2 (sd_check_name C)) (F_check_ring : Fok P w K mg base "check_ring" 1 1 (sd_check_ring C))
    (F : FunD K "leads" "leads" (defArgs s_leads) (defBody s_leads) (defScope s_leads) [] [] f fd) (hk : Keeps N_leads 2 (sd_leads C) (db_leads C)) : FnOk P w K mg base (L2.CX P w) 8 f fd P_leads (spOf K 2 (sd_leads C)) := 
  okD F sc_leads rfl (fun cdv A fr s H E hr => (bd_cons (sd_expr (pd_fn F_check_ring (hr.mono (by decide)) tkF (ad_cons (vr 0) ad_nil)))
      (bd_cons (sd_expr (pd_fn F_check_name (hr.mono (by decide)) tkF (ad_cons (vr 0) (ad_cons (vr 1) ad_nil))))
      (bd_one (sd_ret (pd_callB (cd_sum rfl) (by rfl) T.sum (by decide +kernel) (ad_cons (pd_lc (own := [("_", 2), ("many", 3), ("keepers", 4)]) rfl sc_leads.nd (id_seq (pd_fn F_cells (hr.mono (by decide)) tkF (ad_cons (vr 0) ad_nil))) (blkOk_by (N := N_leads) (sc := (defScope s_leads)) (by decide +kernel)) (fun _ _ _ _ _ => (gw_tup (n := 3) rfl (gws_cons (gw_name (i := 2) sc_leads.nd) (gws_cons (gw_name (i := 3) sc_leads.nd) (gws_cons (gw_name (i := 4) sc_leads.nd) gws_nil))))) (fun _ _ _ _ _ => (tsd_one (td_cmp (opd_eq hr.units) (vr 1) (pd_ix ixd (vr 4) pd_int (fun _ _ => rfl)) (nomark _)))) (fun _ _ _ _ _ => (vr 3))) ad_nil))))))) hk
abbrev P_Ring_read : List Str := ["cls", "text"]
theorem sc_Ring_read : FnScope N_Ring_read P_Ring_read (defScope s_Ring_read) := ⟨rfl, rfl, rfl, by decide +kernel, rfl, by decide +kernel, by decide +kernel⟩
theorem ok_Ring_read {P : Program} {w : World} {K : PySem.W.Frag} {mg : Str → Option Value} {base : Heap} {C f : Addr} {fd : FuncData} (T : Tx K mg C) (F_Ring : Kok P w K mg base "Ring" C 6 8 (sd_Ring___init__ C)) (F_written_host : Fok P w K mg base "written_host" 3 1 (sd_written_host C)) (F_written_number : Fok P w K mg base "written_number" 2 1 (sd_written_number C))
    (F : FunD K "read" "Ring.read" (defArgs s_Ring_read) (defBody s_Ring_read) (defScope s_Ring_read) [] [] f fd) (hk : Keeps N_Ring_read 2 (sd_Ring_read C) (db_Ring_read C)) : FnOk P w K mg base (L2.CX P w) 8 f fd P_Ring_read (spOf K 2 (sd_Ring_read C)) := by
  obtain ⟨ax, ex⟩ := T.e_BadValue
  exact 
  okD F sc_Ring_read rfl (fun cdv A fr s H E hr => (bd_cons (sd_if (td_not (td_tru (pd_isi (vr 1) T.isinstance T.str (by decide +kernel)))) (bd_one sd_never) bd_nil)
      (bd_cons (sd_set 2 sc_Ring_read.nd (pd_split (vr 1) pd_str))
      (bd_cons (sd_set 3 sc_Ring_read.nd (pd_split (pd_ix ixd (vr 2) pd_int (fun _ _ => rfl)) pd_str))
      (bd_cons (sd_if (td_w (wd_or (td_cmp (opd_ne hr.units) (pd_ix ixd (vr 3) pd_int (fun _ _ => rfl)) pd_str (nomark _)) (wd_or1 (td_cmp (opd_ne hr.units) (pd_callB (cd_len) (by rfl) T.len (by decide +kernel) (ad_cons (vr 3) ad_nil)) pd_int (nomark _))))) (bd_one sd_never) bd_nil)
      (bd_cons (sd_asg (pd_lc (own := [("k", 9)]) rfl sc_Ring_read.nd (id_seq (pd_tup (ad_cons pd_int (ad_cons pd_int (ad_cons pd_int (ad_cons pd_int ad_nil)))))) (blkOk_by (N := N_Ring_read) (sc := (defScope s_Ring_read)) (by decide +kernel)) (fun _ _ _ _ _ => (gw_name (i := 9) sc_Ring_read.nd)) (fun _ _ _ _ _ => tsd_nil) (fun _ _ _ _ _ => (pd_fn F_written_number (hr.mono (by decide)) takes0 (ad_cons (pd_ix ixd (vr 3) (vr 9) (fun _ _ => rfl)) ad_nil)))) (gd_lst (n := 4) rfl (gds_cons (gd_name (i := 4) sc_Ring_read.nd) (gds_cons (gd_name (i := 5) sc_Ring_read.nd) (gds_cons (gd_name (i := 6) sc_Ring_read.nd) (gds_cons (gd_name (i := 7) sc_Ring_read.nd) gds_nil))))))
      (bd_cons (sd_set 8 sc_Ring_read.nd (pd_callTy (cd_tuple) (by rfl) T.tuple (by decide +kernel) (ad_cons (pd_lc (own := [("row", 10)]) rfl sc_Ring_read.nd (id_seq (pd_slice sld (vr 2) (od_some pd_int) od_no)) (blkOk_by (N := N_Ring_read) (sc := (defScope s_Ring_read)) (by decide +kernel)) (fun _ _ _ _ _ => (gw_name (i := 10) sc_Ring_read.nd)) (fun _ _ _ _ _ => tsd_nil) (fun _ _ _ _ _ => (pd_fn F_written_host (hr.mono (by decide)) takes0 (ad_cons (vr 10) ad_nil)))) ad_nil)))
      (bd_one (sd_tryN (c := .ref ax) ⟨by rfl, by decide, .inl ex⟩ tkF (fun _ _ _ tk' po' => (bd_one (sd_ret (pd_makeL (i := 0) F_Ring (hr.mono (by decide)) tk' (ad_cons (vr 4) (ad_cons (vr 5) (ad_cons (pd_ix ixd (vr 3) pd_int (fun _ _ => rfl)) (ad_cons (vr 6) (ad_cons (vr 7) (ad_cons (pd_ix ixd (vr 3) pd_int (fun _ _ => rfl)) (ad_cons (vr 8) ad_nil)))))))))))))))))))) hk
abbrev P_kept : List Str := ["ring", "name"]
theorem sc_kept : FnScope N_kept P_kept (defScope s_kept) := ⟨rfl, rfl, rfl, by decide +kernel, rfl, by decide +kernel, by decide +kernel⟩
theorem ok_kept {P : Program} {w : World} {K : PySem.W.Frag} {mg : Str → Option Value} {base : Heap} {C f : Addr} {fd : FuncData} (T : Tx K mg C) (F_cells : Fok P w K mg base "cells" 7 1 (sd_cells C)) (F_check_name : Fok P w K mg base "check_name" 4 2 (sd_check_name C)) (F_check_ring : Fok P w K mg base "check_ring" 1 1 (sd_check_ring C))
    (F : FunD K "kept" "kept" (defArgs s_kept) (defBody s_kept) (defScope s_kept) [] [] f fd) (hk : Keeps N_kept 2 (sd_kept C) (db_kept C)) : FnOk P w K mg base (L2.CX P w) 8 f fd P_kept (spOf K 2 (sd_kept C)) := 
  okD F sc_kept rfl (fun cdv A fr s H E hr => (bd_cons (sd_expr (pd_fn F_check_ring (hr.mono (by decide)) tkF (ad_cons (vr 0) ad_nil)))
      (bd_cons (sd_expr (pd_fn F_check_name (hr.mono (by decide)) tkF (ad_cons (vr 0) (ad_cons (vr 1) ad_nil))))
      (bd_one (sd_ret (pd_callB (cd_sum rfl) (by rfl) T.sum (by decide +kernel) (ad_cons (pd_lc (own := [("_", 2), ("many", 3), ("keepers", 4)]) rfl sc_kept.nd (id_seq (pd_fn F_cells (hr.mono (by decide)) tkF (ad_cons (vr 0) ad_nil))) (blkOk_by (N := N_kept) (sc := (defScope s_kept)) (by decide +kernel)) (fun _ _ _ _ _ => (gw_tup (n := 3) rfl (gws_cons (gw_name (i := 2) sc_kept.nd) (gws_cons (gw_name (i := 3) sc_kept.nd) (gws_cons (gw_name (i := 4) sc_kept.nd) gws_nil))))) (fun _ _ _ _ _ => (tsd_one (td_cmp opd_in (vr 1) (vr 4) (by rfl)))) (fun _ _ _ _ _ => (vr 3))) ad_nil))))))) hk
abbrev P_greatest : List Str := ["ring"]
theorem sc_greatest : FnScope N_greatest P_greatest (defScope s_greatest) := ⟨rfl, rfl, rfl, by decide +kernel, rfl, by decide +kernel, by decide +kernel⟩
theorem ok_greatest {P : Program} {w : World} {K : PySem.W.Frag} {mg : Str → Option Value} {base : Heap} {C f : Addr} {fd : FuncData} (T : Tx K mg C) (F_shares : Fok P w K mg base "shares" 8 1 (sd_shares C))
    (F : FunD K "greatest" "greatest" (defArgs s_greatest) (defBody s_greatest) (defScope s_greatest) [] [] f fd) (hk : Keeps N_greatest 1 (sd_greatest C) (db_greatest C)) : FnOk P w K mg base (L2.CX P w) 9 f fd P_greatest (spOf K 1 (sd_greatest C)) := 
  okD F sc_greatest rfl (fun cdv A fr s H E hr => (bd_one (sd_ret (pd_callB (cd_maxL rfl) (by rfl) T.max (by decide +kernel) (ad_cons (pd_lc (own := [("_", 1), ("many", 2)]) rfl sc_greatest.nd (id_seq (pd_fn F_shares (hr.mono (by decide)) tkF (ad_cons (vr 0) ad_nil))) (blkOk_by (N := N_greatest) (sc := (defScope s_greatest)) (by decide +kernel)) (fun _ _ _ _ _ => (gw_tup (n := 2) rfl (gws_cons (gw_name (i := 1) sc_greatest.nd) (gws_cons (gw_name (i := 2) sc_greatest.nd) gws_nil)))) (fun _ _ _ _ _ => tsd_nil) (fun _ _ _ _ _ => (vr 2))) ad_nil))))) hk
abbrev P_made : List Str := ["_law_keg", "_law_frame"]
theorem sc_made : FnScope N_made P_made (defScope s_made) := ⟨rfl, rfl, rfl, by decide +kernel, rfl, by decide +kernel, by decide +kernel⟩
theorem ok_made {P : Program} {w : World} {K : PySem.W.Frag} {mg : Str → Option Value} {base : Heap} {C f : Addr} {fd : FuncData} (T : Tx K mg C) (F_Ring : Kok P w K mg base "Ring" C 6 8 (sd_Ring___init__ C)) (FP_Ring : KokP P w K mg base "Ring" C 6 8 ["hosts", "pending", "read", "write", "spread", "factor", "points"] [6, 5, 4, 3, 2, 1, 0] (sd_Ring___init__ C)) (C_Ring_read : Cok P w K mg base "Ring" C "read" 8 2 (sd_Ring_read C)) (F_dip : Fok P w K mg base "_law_dip" 1 2 (sd_dip C)) (F_sheet : Fok P w K mg base "_law_sheet" 1 1 (sd_sheet C))
    (F : FunD K "_law_made" "_law_made" (defArgs s_made) (defBody s_made) (defScope s_made) [] [] f fd) (hk : Keeps N_made 2 (sd_made C) (db_made C)) : FnOk P w K mg base (L2.CX P w) 9 f fd P_made (spOf K 2 (sd_made C)) := 
  okD F sc_made rfl (fun cdv A fr s H E hr => (bd_cons (sd_set 2 sc_made.nd (pd_fn F_dip (hr.mono (by decide)) tkF (ad_cons (vr 0) (ad_cons pd_int ad_nil))))
      (bd_cons (sd_asg (vr 1) (gd_lst (n := 7) rfl (gds_cons (gd_name (i := 3) sc_made.nd) (gds_cons (gd_name (i := 4) sc_made.nd) (gds_cons (gd_name (i := 5) sc_made.nd) (gds_cons (gd_name (i := 6) sc_made.nd) (gds_cons (gd_name (i := 7) sc_made.nd) (gds_cons (gd_name (i := 8) sc_made.nd) (gds_cons (gd_name (i := 9) sc_made.nd) gds_nil)))))))))
      (bd_cons (sd_if (td_cmp (opd_eq hr.units) (vr 2) pd_int (nomark _)) (bd_one (sd_ret (pd_make F_Ring (hr.mono (by decide)) tkF (ad_cons (vr 3) (ad_cons (vr 4) (ad_cons (vr 5) (ad_cons (vr 6) (ad_cons (vr 7) (ad_cons (vr 8) (ad_cons (vr 9) ad_nil)))))))))) bd_nil)
      (bd_cons (sd_if (td_cmp (opd_eq hr.units) (vr 2) pd_int (nomark _)) (bd_one (sd_ret (pd_makeP (ks := ["hosts", "pending", "read", "write", "spread", "factor", "points"]) (pm := [6, 5, 4, 3, 2, 1, 0]) FP_Ring (hr.mono (by decide)) tkF (kd_cons (vr 9) (kd_cons (vr 8) (kd_cons (vr 7) (kd_cons (vr 6) (kd_cons (vr 5) (kd_cons (vr 4) (kd_cons (vr 3) kd_nil)))))))))) bd_nil)
      (bd_one (sd_ret (pd_cmeth C_Ring_read (hr.mono (by decide)) tkF (ad_cons (pd_fn F_sheet (hr.mono (by decide)) tkF (ad_cons (vr 1) ad_nil)) ad_nil))))))))) hk
abbrev P_even_right : List Str := ["_law_keg"]
theorem sc_even_right : FnScope N_even_right P_even_right (defScope s_even_right) := ⟨rfl, rfl, rfl, by decide +kernel, rfl, by decide +kernel, by decide +kernel⟩
theorem ok_even_right {P : Program} {w : World} {K : PySem.W.Frag} {mg : Str → Option Value} {base : Heap} {C f : Addr} {fd : FuncData} (T : Tx K mg C) (F_dip : Fok P w K mg base "_law_dip" 1 2 (sd_dip C)) (F_greatest : Fok P w K mg base "greatest" 9 1 (sd_greatest C)) (F_leads : Fok P w K mg base "leads" 8 2 (sd_leads C)) (F_of : Fok P w K mg base "_law_of" 2 2 (sd_of C)) (F_plain : Fok P w K mg base "_law_plain" 8 1 (sd_plain C)) (F_rule : Fok P w K mg base "_law_rule" 3 1 (sd_rule C)) (F_shares : Fok P w K mg base "shares" 8 1 (sd_shares C)) (F_vast : Fok P w K mg base "_law_vast" 2 2 (sd_vast C))
    (F : FunD K "_law_even_right" "_law_even_right" (defArgs s_even_right) (defBody s_even_right) (defScope s_even_right) [] [] f fd) (hk : Keeps N_even_right 1 (sd_even_right C) (db_even_right C)) : FnG P w K mg base 10 f fd P_even_right (spOf K 1 (sd_even_right C)) := 
  okG F sc_even_right rfl (fun cdv A fr s H E hr hg => (bd_cons (sd_asg (pd_tup (ad_cons (pd_op opd_add pd_int (pd_fn F_dip (hr.mono (by decide)) tkF (ad_cons (vr 0) (ad_cons pd_int ad_nil)))) (ad_cons (pd_op opd_add pd_int (pd_fn F_dip (hr.mono (by decide)) tkF (ad_cons (vr 0) (ad_cons pd_int ad_nil)))) ad_nil))) (gd_tup (n := 2) rfl (gds_cons (gd_name (i := 1) sc_even_right.nd) (gds_cons (gd_name (i := 2) sc_even_right.nd) gds_nil))))
      (bd_cons (sd_set 3 sc_even_right.nd (pd_op opd_add pd_int (pd_fn F_vast (hr.mono (by decide)) tkF (ad_cons (vr 0) (ad_cons (pd_fn F_of (hr.mono (by decide)) tkF (ad_cons (vr 0) (ad_cons (pd_lst (ad_cons pd_int (ad_cons (pd_op opd_pow pd_int pd_int) (ad_cons (pd_op opd_divW (pd_op opd_pow pd_int pd_int) (pd_op opd_mul (vr 1) (vr 2))) ad_nil)))) ad_nil))) ad_nil)))))
      (bd_cons (sd_set 4 sc_even_right.nd (pd_fn F_rule (hr.mono (by decide)) tkF (ad_cons (vr 0) ad_nil)))
      (bd_cons (sd_asg (pd_tup (ad_cons (pd_fn F_vast (hr.mono (by decide)) tkF (ad_cons (vr 0) (ad_cons (pd_op opd_mul (pd_op opd_mul (vr 3) (vr 1)) (vr 2)) ad_nil))) (ad_cons (pd_op opd_mul (pd_op opd_mul (vr 3) (vr 1)) (vr 2)) ad_nil))) (gd_tup (n := 2) rfl (gds_cons (gd_name (i := 5) sc_even_right.nd) (gds_cons (gd_name (i := 6) sc_even_right.nd) gds_nil))))
      (bd_cons (sd_set 7 sc_even_right.nd (pd_lstC ad_nil))
      (bd_cons (sd_for poF rfl (id_rng1 (by rfl) T.range (ad_cons (vr 1) ad_nil)) (gd_name (i := 8) sc_even_right.nd) (bd_cons (sd_set 9 sc_even_right.nd (pd_callB (cd_sortI) (by rfl) T.sorted (by decide +kernel) (ad_cons (pd_lc (own := [("_law_turn", 12)]) rfl sc_even_right.nd (id_rng1 (by rfl) T.range (ad_cons (vr 2) ad_nil)) (blkOk_by (N := N_even_right) (sc := (defScope s_even_right)) (by decide +kernel)) (fun _ _ _ _ _ => (gw_name (i := 12) sc_even_right.nd)) (fun _ _ _ _ _ => tsd_nil) (fun _ _ _ _ _ => (pd_op opd_mod (pd_callTy (cd_int) (by rfl) T.int (by decide +kernel) (ad_cons (pd_op opd_add (vr 5) (pd_op opd_mul (vr 3) (pd_op opd_add (pd_op opd_mul (vr 1) (vr 12)) (vr 8)))) ad_nil)) (vr 6)))) ad_nil)))
      (bd_one (sd_expr (pd_app (vr 7) (ad_cons (pd_tup (ad_cons (pd_op opd_add pd_str (pd_callTy (cd_strI) (by rfl) T.str (by decide +kernel) (ad_cons (vr 8) ad_nil))) (ad_cons (pd_op opd_add pd_str (pd_callTy (cd_strI) (by rfl) T.str (by decide +kernel) (ad_cons (vr 8) ad_nil))) (ad_cons (pd_callTy (cd_tuple) (by rfl) T.tuple (by decide +kernel) (ad_cons (vr 9) ad_nil)) ad_nil)))) ad_nil))))))
      (bd_cons (sd_set 10 sc_even_right.nd (pd_fn F_plain (hr.mono (by decide)) tkF (ad_cons (pd_op opd_add (pd_op opd_add (pd_lst (ad_cons (vr 6) ad_nil)) (vr 4)) (pd_lst (ad_cons (pd_callTy (cd_tuple) (by rfl) T.tuple (by decide +kernel) (ad_cons (vr 7) ad_nil)) ad_nil))) ad_nil)))
      (bd_cons (sd_set 11 sc_even_right.nd (pd_callTy (cd_tuple) (by rfl) T.tuple (by decide +kernel) (ad_cons (pd_callB (cd_sortTI) (by rfl) T.sorted (by decide +kernel) (ad_cons (pd_lc (own := [("_law_at", 8)]) rfl sc_even_right.nd (id_rng1 (by rfl) T.range (ad_cons (vr 1) ad_nil)) (blkOk_by (N := N_even_right) (sc := (defScope s_even_right)) (by decide +kernel)) (fun _ _ _ _ _ => (gw_name (i := 8) sc_even_right.nd)) (fun _ _ _ _ _ => tsd_nil) (fun _ _ _ _ _ => (pd_tup (ad_cons (pd_op opd_add pd_str (pd_callTy (cd_strI) (by rfl) T.str (by decide +kernel) (ad_cons (vr 8) ad_nil))) (ad_cons (pd_op opd_mul (pd_op opd_mul (vr 3) (vr 2)) (pd_callB (cd_min2 rfl) (by rfl) T.min (by decide +kernel) (ad_cons (pd_ix ixd (vr 4) pd_int (fun _ _ => rfl)) (ad_cons (vr 1) ad_nil)))) ad_nil))))) ad_nil)) ad_nil)))
      (bd_cons (sd_if (td_w (wd_or (td_cmp (opd_ne hr.units) (pd_callB (cd_repr hg (hu2_of hr)) (by rfl) T.repr (by decide +kernel) (ad_cons (pd_fn F_shares (hr.mono (by decide)) tkF (ad_cons (vr 10) ad_nil)) ad_nil)) (pd_callB (cd_repr hg (hu2_of hr)) (by rfl) T.repr (by decide +kernel) (ad_cons (vr 11) ad_nil)) (nomark _)) (wd_or1 (td_cmp (opd_ne hr.units) (pd_fn F_greatest (hr.mono (by decide)) tkF (ad_cons (vr 10) ad_nil)) (pd_op opd_mul (pd_op opd_mul (vr 3) (vr 2)) (pd_callB (cd_min2 rfl) (by rfl) T.min (by decide +kernel) (ad_cons (pd_ix ixd (vr 4) pd_int (fun _ _ => rfl)) (ad_cons (vr 1) ad_nil)))) (nomark _))))) (bd_one (sd_ret pd_bl)) bd_nil)
      (bd_one (sd_ret (pd_cmp (opd_eq hr.units) (pd_lc (own := [("_law_tag", 13), ("_law_share", 14)]) rfl sc_even_right.nd (id_seq (vr 11)) (blkOk_by (N := N_even_right) (sc := (defScope s_even_right)) (by decide +kernel)) (fun _ _ _ _ _ => (gw_tup (n := 2) rfl (gws_cons (gw_name (i := 13) sc_even_right.nd) (gws_cons (gw_name (i := 14) sc_even_right.nd) gws_nil)))) (fun _ _ _ _ _ => tsd_nil) (fun _ _ _ _ _ => (pd_fn F_leads (hr.mono (by decide)) takes0 (ad_cons (vr 10) (ad_cons (vr 13) ad_nil))))) (pd_op opd_mul (pd_lst (ad_cons (pd_op opd_mul (vr 3) (vr 2)) ad_nil)) (vr 1)) (nomark _)))))))))))))) hk
abbrev P_right : List Str := ["_law_keg"]
theorem sc_right : FnScope N_right P_right (defScope s_right) := ⟨rfl, rfl, rfl, by decide +kernel, rfl, by decide +kernel, by decide +kernel⟩
theorem ok_right {P : Program} {w : World} {K : PySem.W.Frag} {mg : Str → Option Value} {base : Heap} {C f : Addr} {fd : FuncData} (T : Tx K mg C) (F_build : Fok P w K mg base "_law_build" 7 4 (sd_build C)) (F_counted : Fok P w K mg base "_law_counted" 2 1 (sd_counted C)) (F_even_right : Fgd P w K mg base "_law_even_right" 10 1 (sd_even_right C)) (F_firsts : Fok P w K mg base "_law_firsts" 2 1 (sd_firsts C)) (F_greatest : Fok P w K mg base "greatest" 9 1 (sd_greatest C)) (F_kept : Fok P w K mg base "kept" 8 2 (sd_kept C)) (F_leads : Fok P w K mg base "leads" 8 2 (sd_leads C)) (F_made : Fok P w K mg base "_law_made" 9 2 (sd_made C)) (F_of : Fok P w K mg base "_law_of" 2 2 (sd_of C)) (F_shares : Fok P w K mg base "shares" 8 1 (sd_shares C)) (F_width : Fok P w K mg base "_law_width" 3 1 (sd_width C))
    (F : FunD K "_law_right" "_law_right" (defArgs s_right) (defBody s_right) (defScope s_right) [] [] f fd) (hk : Keeps N_right 1 (sd_right C) (db_right C)) : FnG P w K mg base 11 f fd P_right (spOf K 1 (sd_right C)) := 
  okG F sc_right rfl (fun cdv A fr s H E hr hg => (bd_cons (sd_set 1 sc_right.nd (pd_fn F_build (hr.mono (by decide)) tkF (ad_cons (vr 0) (ad_cons (pd_fn F_width (hr.mono (by decide)) tkF (ad_cons (vr 0) ad_nil)) (ad_cons pd_int (ad_cons (pd_fn F_of (hr.mono (by decide)) tkF (ad_cons (vr 0) (ad_cons (pd_lst (ad_cons pd_int (ad_cons pd_int (ad_cons pd_int ad_nil)))) ad_nil))) ad_nil))))))
      (bd_cons (sd_asg (pd_tup (ad_cons (pd_fn F_made (hr.mono (by decide)) tkF (ad_cons (vr 0) (ad_cons (vr 1) ad_nil))) (ad_cons (pd_fn F_counted (hr.mono (by decide)) tkF (ad_cons (vr 1) ad_nil)) (ad_cons (pd_fn F_firsts (hr.mono (by decide)) tkF (ad_cons (vr 1) ad_nil)) ad_nil)))) (gd_tup (n := 3) rfl (gds_cons (gd_name (i := 2) sc_right.nd) (gds_cons (gd_name (i := 3) sc_right.nd) (gds_cons (gd_name (i := 4) sc_right.nd) gds_nil)))))
      (bd_cons (sd_set 5 sc_right.nd (pd_fn F_shares (hr.mono (by decide)) tkF (ad_cons (vr 2) ad_nil)))
      (bd_cons (sd_if (td_cmp (opd_ne hr.units) (pd_callB (cd_repr hg (hu2_of hr)) (by rfl) T.repr (by decide +kernel) (ad_cons (vr 5) ad_nil)) (pd_callB (cd_repr hg (hu2_of hr)) (by rfl) T.repr (by decide +kernel) (ad_cons (pd_callTy (cd_tuple) (by rfl) T.tuple (by decide +kernel) (ad_cons (pd_lc (own := [("_law_tag", 6)]) rfl sc_right.nd (id_seq (pd_callB (cd_sortD rfl) (by rfl) T.sorted (by decide +kernel) (ad_cons (vr 3) ad_nil))) (blkOk_by (N := N_right) (sc := (defScope s_right)) (by decide +kernel)) (fun _ _ _ _ _ => (gw_name (i := 6) sc_right.nd)) (fun _ _ _ _ _ => tsd_nil) (fun _ _ _ _ _ => (pd_tup (ad_cons (vr 6) (ad_cons (pd_dget (hu_of hr) (vr 3) (vr 6) (fun _ _ => rfl)) ad_nil))))) ad_nil)) ad_nil)) (nomark _)) (bd_one (sd_ret pd_bl)) bd_nil)
      (bd_cons (sd_if (td_cmp (opd_ne hr.units) (pd_callB (cd_repr hg (hu2_of hr)) (by rfl) T.repr (by decide +kernel) (ad_cons (pd_lock 3 (pd_lc (own := [("_law_tag", 6)]) rfl sc_right.nd (id_keys (vr 3)) (blkOk_by (N := N_right) (sc := (defScope s_right)) (by decide +kernel)) (fun _ _ _ _ _ => (gw_name (i := 6) sc_right.nd)) (fun _ _ _ _ _ => tsd_nil) (fun _ _ _ _ _ => (pd_fn F_kept (hr.mono (by decide)) takes0 (ad_cons (vr 2) (ad_cons (vr 6) ad_nil)))))) ad_nil)) (pd_callB (cd_repr hg (hu2_of hr)) (by rfl) T.repr (by decide +kernel) (ad_cons (pd_lock 3 (pd_lc (own := [("_law_tag", 6)]) rfl sc_right.nd (id_keys (vr 3)) (blkOk_by (N := N_right) (sc := (defScope s_right)) (by decide +kernel)) (fun _ _ _ _ _ => (gw_name (i := 6) sc_right.nd)) (fun _ _ _ _ _ => tsd_nil) (fun _ _ _ _ _ => (pd_dgetF (hu_of hr) (vr 3) (vr 6) (fun _ _ => rfl))))) ad_nil)) (nomark _)) (bd_one (sd_ret pd_bl)) bd_nil)
      (bd_cons (sd_if (td_cmp (opd_ne hr.units) (pd_callB (cd_repr hg (hu2_of hr)) (by rfl) T.repr (by decide +kernel) (ad_cons (pd_lock 3 (pd_lc (own := [("_law_tag", 6)]) rfl sc_right.nd (id_keys (vr 3)) (blkOk_by (N := N_right) (sc := (defScope s_right)) (by decide +kernel)) (fun _ _ _ _ _ => (gw_name (i := 6) sc_right.nd)) (fun _ _ _ _ _ => tsd_nil) (fun _ _ _ _ _ => (pd_fn F_leads (hr.mono (by decide)) takes0 (ad_cons (vr 2) (ad_cons (vr 6) ad_nil)))))) ad_nil)) (pd_callB (cd_repr hg (hu2_of hr)) (by rfl) T.repr (by decide +kernel) (ad_cons (pd_lock 3 (pd_lc (own := [("_law_tag", 6)]) rfl sc_right.nd (id_keys (vr 3)) (blkOk_by (N := N_right) (sc := (defScope s_right)) (by decide +kernel)) (fun _ _ _ _ _ => (gw_name (i := 6) sc_right.nd)) (fun _ _ _ _ _ => tsd_nil) (fun _ _ _ _ _ => (pd_dget (hu_of hr) (vr 4) (vr 6) (fun _ _ => rfl))))) ad_nil)) (nomark _)) (bd_one (sd_ret pd_bl)) bd_nil)
      (bd_cons (sd_if (td_cmp (opd_ne hr.units) (pd_callB (cd_repr hg (hu2_of hr)) (by rfl) T.repr (by decide +kernel) (ad_cons (pd_fn F_greatest (hr.mono (by decide)) tkF (ad_cons (vr 2) ad_nil)) ad_nil)) (pd_callB (cd_repr hg (hu2_of hr)) (by rfl) T.repr (by decide +kernel) (ad_cons (pd_callB (cd_maxL rfl) (by rfl) T.max (by decide +kernel) (ad_cons (pd_lock 3 (pd_lc (own := [("_law_tag", 6)]) rfl sc_right.nd (id_keys (vr 3)) (blkOk_by (N := N_right) (sc := (defScope s_right)) (by decide +kernel)) (fun _ _ _ _ _ => (gw_name (i := 6) sc_right.nd)) (fun _ _ _ _ _ => tsd_nil) (fun _ _ _ _ _ => (pd_dgetF (hu_of hr) (vr 3) (vr 6) (fun _ _ => rfl))))) ad_nil)) ad_nil)) (nomark _)) (bd_one (sd_ret pd_bl)) bd_nil)
      (bd_cons (sd_if (td_cmp (opd_ne hr.units) (pd_callB (cd_sum rfl) (by rfl) T.sum (by decide +kernel) (ad_cons (pd_lc (own := [("_law_tag", 6), ("_law_share", 7)]) rfl sc_right.nd (id_seq (vr 5)) (blkOk_by (N := N_right) (sc := (defScope s_right)) (by decide +kernel)) (fun _ _ _ _ _ => (gw_tup (n := 2) rfl (gws_cons (gw_name (i := 6) sc_right.nd) (gws_cons (gw_name (i := 7) sc_right.nd) gws_nil)))) (fun _ _ _ _ _ => tsd_nil) (fun _ _ _ _ _ => (vr 7))) ad_nil)) (pd_op opd_mul (pd_ix ixd (vr 1) pd_int (fun _ _ => rfl)) (pd_callB (cd_min2 rfl) (by rfl) T.min (by decide +kernel) (ad_cons (pd_ix ixd (vr 1) pd_int (fun _ _ => rfl)) (ad_cons (pd_callB (cd_len) (by rfl) T.len (by decide +kernel) (ad_cons (pd_ix ixd (vr 1) pd_int (fun _ _ => rfl)) ad_nil)) ad_nil)))) (nomark _)) (bd_one (sd_ret pd_bl)) bd_nil)
      (bd_one (sd_ret (pd_and (pd_cmp (opd_eq hr.units) (pd_callB (cd_sum rfl) (by rfl) T.sum (by decide +kernel) (ad_cons (pd_lc (own := [("_law_tag", 6), ("_law_share", 7)]) rfl sc_right.nd (id_seq (vr 5)) (blkOk_by (N := N_right) (sc := (defScope s_right)) (by decide +kernel)) (fun _ _ _ _ _ => (gw_tup (n := 2) rfl (gws_cons (gw_name (i := 6) sc_right.nd) (gws_cons (gw_name (i := 7) sc_right.nd) gws_nil)))) (fun _ _ _ _ _ => tsd_nil) (fun _ _ _ _ _ => (pd_fn F_leads (hr.mono (by decide)) takes0 (ad_cons (vr 2) (ad_cons (vr 6) ad_nil))))) ad_nil)) (pd_ix ixd (vr 1) pd_int (fun _ _ => rfl)) (nomark _)) (pd_one (pd_fg F_even_right (hr.mono (by decide)) hg tkF (ad_cons (vr 0) ad_nil))))))))))))))) hk
abbrev P_law : List Str := ["_law_script"]
theorem sc_law : FnScope N_law P_law (defScope s_law) := ⟨rfl, rfl, rfl, by decide +kernel, rfl, by decide +kernel, by decide +kernel⟩
theorem ok_law {P : Program} {w : World} {K : PySem.W.Frag} {mg : Str → Option Value} {base : Heap} {C f : Addr} {fd : FuncData} (T : Tx K mg C) (F_filled : Fok P w K mg base "_law_filled" 1 2 (sd_filled C)) (F_right : Fgd P w K mg base "_law_right" 11 1 (sd_right C))
    (F : FunD K "law" "law" (defArgs s_law) (defBody s_law) (defScope s_law) [] [] f fd) (hk : Keeps N_law 1 (sd_law C) (db_law C)) : FnG P w K mg base 12 f fd P_law (spOf K 1 (sd_law C)) := 
  okG F sc_law rfl (fun cdv A fr s H E hr hg => (bd_one (sd_ret (pd_callB (cd_all rfl) (by rfl) T.all (by decide +kernel) (ad_cons (pd_lc (own := [("_law_turn", 1)]) rfl sc_law.nd (id_rng1 (by rfl) T.range (ad_cons (pd_callB (cd_max2 rfl) (by rfl) T.max (by decide +kernel) (ad_cons pd_int (ad_cons (pd_callB (cd_min2 rfl) (by rfl) T.min (by decide +kernel) (ad_cons (pd_callB (cd_len) (by rfl) T.len (by decide +kernel) (ad_cons (vr 0) ad_nil)) (ad_cons pd_int ad_nil))) ad_nil))) ad_nil)) (blkOk_by (N := N_law) (sc := (defScope s_law)) (by decide +kernel)) (fun _ _ _ _ _ => (gw_name (i := 1) sc_law.nd)) (fun _ _ _ _ _ => tsd_nil) (fun _ _ _ _ _ => (pd_fg F_right (hr.mono (by decide)) hg takes0 (ad_cons (pd_fn F_filled (hr.mono (by decide)) takes0 (ad_cons (vr 0) (ad_cons (vr 1) ad_nil))) ad_nil)))) ad_nil))))) hk
end L18
namespace DLH
open PySem PySem.W PySem.Calls PyProof.Rows He He5
theorem isB_ok {K : Frag} {x : PySem.Str} (cl : L2.Cls K (ga K x)) (h : isB K x = true) : DL.OwnI K (ga K x) := by
  obtain ⟨h1, h⟩ := ba h
  obtain ⟨h2, h⟩ := ba h
  obtain ⟨h3, h⟩ := ba h
  obtain ⟨h4, h5⟩ := ba h
  exact ⟨cl, eqO_ok h1, eqO_ok h2, of_decide_eq_true h3, of_decide_eq_true h4, fun t ht => of_decide_eq_true (List.all_eq_true.mp h5 t ht)⟩
end DLH
set_option maxRecDepth 100000
set_option maxHeartbeats 1000000
namespace L18
open PySem PySem.Spec PyProof.Rows L2 DL R
local macro_rules | `(tactic| bv_omega) => `(tactic| first | assumption | exact mset_same)
local macro_rules | `(tactic| symm) => `(tactic| first
  | ((with_reducible show ∃ _, _ = _ ∧ _); refine ⟨_, rfl, ?_⟩)
  | ((with_reducible show _ = _ ∧ _); refine ⟨rfl, ?_⟩)
  | ((with_reducible show ∃ _ _, _ = _ ∧ _ = _ ∧ _); refine ⟨_, _, rfl, rfl, ?_⟩)
  | ((with_reducible show ∃ _ _, _ = _ ∧ _); refine ⟨_, _, rfl, ?_⟩)
  | ((with_reducible show ∃ _ _ _, _ = _ ∧ _); refine ⟨_, _, _, rfl, ?_⟩)
  | ((with_reducible show (_ ≤ _ ∧ _) ∧ _); refine ⟨by omega, ?_⟩)
  | with_reducible refine add_int ?_ | with_reducible refine sub_int ?_
  | with_reducible refine lt_int ?_ | with_reducible refine le_int ?_ | with_reducible refine gt_int ?_ | with_reducible refine ge_int ?_
  | with_reducible refine int_int ?_
  | with_reducible refine eq_int ?_ | with_reducible refine ne_int ?_
  | with_reducible refine len_tup ?_ | with_reducible refine len_lst ?_
  | ((with_reducible show rdIx (.cel _) (.int _) _ _); refine ix_cel (by bv_omega) (by rfl) ?_)
  | ((with_reducible show rdIx (.lst _) (.int _) _ _); refine ix_lst (by rfl) ?_)
  | ((with_reducible show rdIx (.tup _) (.int _) _ _); refine ix_tup (by rfl) ?_)
  | ((with_reducible show rdLen [.cel _] _ _); refine len_cel (by bv_omega) ?_)
  | ((with_reducible show rdMul (.int _) (.int _) _ _); first | refine mul_l (by decide) (by decide) ?_ | refine mul_r (by decide) (by decide) ?_ | refine mul_l (by omega) (by omega) ?_ | refine mul_r (by omega) (by omega) ?_)
  | ((with_reducible show rdDiv (.int _) (.int _) _ _); refine div_int (by first | decide | assumption | omega) (by first | decide | assumption | omega) ?_)
  | ((with_reducible show rdDivmod [.int _, .int _] _ _); refine dm_int (by first | decide | assumption | omega) (by first | decide | assumption | omega) ?_)
  | ((with_reducible show @ite _ (_ = true) _ _ _); first | refine ifYes (by first | with_reducible rfl | exact Bool.not_false | assumption) ?_ | refine ifNo (by first | with_reducible rfl | exact Bool.not_true | assumption) ?_)
  | ((with_reducible show ∃ _, _ ∧ _); refine ⟨_, celL_of (by bv_omega), ?_⟩)
  | ((with_reducible show ∃ _ _ _ _, _ ∧ _ ∧ _ ∧ _ ∧ _); refine ⟨_, _, _, _, rfl, rfl, by bv_omega, by rfl, ?_⟩)
  | ((with_reducible show (_ : Nat) ≤ sizeLine ∧ _); refine ⟨by rw [sizeLine_eq]; exact Nat.le_of_ble_eq_true rfl, ?_⟩))
local macro_rules | `(tactic| infer_instance) => `(tactic| ((repeat symm); try dsimp only))
local macro_rules | `(tactic| ac_rfl) => `(tactic| ((repeat (first | symm | ((with_reducible show rdMod (.int _) (.int _) _ _); refine mod_any (by first | decide | assumption | omega) ?_; intro _ _ _))); try dsimp only))
theorem num_get {g : Str → Int} : ∀ {hs : List Host} {x : Str}, x ∈ hs.map (·.name) → getK (numKv g hs) (.inr x) = some (.int (g x))
  | o :: hs, x, h => by
    show ((List.find? _ ((Sum.inr o.name, D.int (g o.name)) :: numKv g hs)).map (·.2)) = _
    rw [List.find?_cons]
    by_cases e : o.name = x
    · subst e; simp
    · have e2 : decide ((Sum.inr o.name : Key) = Sum.inr x) = false := decide_eq_false fun z => e (Sum.inr.inj z)
      rw [e2]
      rcases List.mem_cons.mp h with z | z
      · exact absurd z.symm e
      · exact num_get (hs := hs) z
theorem num_set {g : Str → Int} {hs : List Host} {x : Str} (h : x ∈ hs.map (·.name)) (v : Int) : setK (numKv g hs) (.inr x) (.int v) = numKv (fun y => if y = x then v else g y) hs := by
  unfold setK
  rw [if_pos]
  · unfold numKv
    rw [List.map_map]
    refine List.map_congr_left fun o _ => ?_
    show (if (Sum.inr o.name : Key) = Sum.inr x then ((Sum.inr o.name : Key), D.int v) else (Sum.inr o.name, D.int (g o.name))) = (Sum.inr o.name, D.int (if o.name = x then v else g o.name))
    by_cases e : o.name = x
    · rw [if_pos (by rw [e]), if_pos e]
    · rw [if_neg fun z => e (Sum.inr.inj z), if_neg e]
  · obtain ⟨o, ho, e⟩ := List.mem_map.mp h
    exact List.any_eq_true.mpr ⟨_, List.mem_map.mpr ⟨o, ho, rfl⟩, by simp [e]⟩
theorem num_congr {g g' : Str → Int} {hs : List Host} (h : ∀ x ∈ hs.map (·.name), g x = g' x) : numKv g hs = numKv g' hs := by
  unfold numKv
  refine List.map_congr_left fun o ho => ?_
  rw [h o.name (List.mem_map.mpr ⟨o, ho, rfl⟩)]
theorem num_len {g : Str → Int} {hs : List Host} : (numKv g hs).length = hs.length := List.length_map _
theorem zero_kv : ∀ l : List Host, kvsD (l.map fun o => D.tup [.str o.name, .int 0]) = some (numKv (fun _ => 0) l)
  | [] => rfl
  | o :: l => by
    show (match keyD (.str o.name), kvsD (l.map fun o => D.tup [.str o.name, .int 0]) with | some k, some r => some ((k, D.int 0) :: r) | _, _ => none) = _
    rw [zero_kv l]; rfl
theorem merge_id : ∀ {kvs acc : List (Key × D)}, ((acc ++ kvs).map (·.1)).Nodup → mergeD acc kvs = acc ++ kvs
  | [], acc, _ => by rw [List.append_nil]; rfl
  | kv :: kvs, acc, h => by
    have hn : ∀ a ∈ acc, a.1 ≠ kv.1 := fun a ha e => by
      unfold List.Nodup at h
      rw [List.map_append, List.pairwise_append] at h
      exact h.2.2 a.1 (List.mem_map.mpr ⟨a, ha, rfl⟩) kv.1 (by simp) e
    have e : setK acc kv.1 kv.2 = acc ++ [kv] := by
      unfold setK
      rw [if_neg]
      intro z
      obtain ⟨a, ha, e⟩ := List.any_eq_true.mp z
      exact hn a ha (by simpa using e)
    show mergeD (setK acc kv.1 kv.2) kvs = _
    rw [e, merge_id (by rw [List.append_assoc]; exact h), List.append_assoc]; rfl
theorem zero_merge {size : Int} {hs : List Host} (hc : CrewOk size hs) : mergeD [] (numKv (fun _ => 0) hs) = numKv (fun _ => 0) hs := by
  rw [merge_id, List.nil_append]
  rw [List.nil_append]
  unfold numKv
  rw [List.map_map]
  have := crew_nodup hc
  unfold List.Nodup at this ⊢
  rw [List.pairwise_map] at this ⊢
  exact this.imp fun {a b} hab e => hab (Sum.inr.inj e)
def partN (p : Int × Int × Int → Bool) (l : List (Int × Int × Int)) : Int := ((l.filter p).map (·.2.1)).sum
theorem part_snoc {p : Int × Int × Int → Bool} {l : List (Int × Int × Int)} {t : Int × Int × Int} : partN p (l ++ [t]) = partN p l + if p t = true then t.2.1 else 0 := by
  unfold partN
  rw [List.filter_append, List.map_append, List.sum_append]
  congr 1
  by_cases h : p t = true
  · rw [if_pos h]; simp [h]
  · rw [if_neg h]; simp [h]
theorem kp_counted (C : Addr) : Keeps N_counted 1 (sd_counted C) (db_counted C) := by
  rintro ds M q ex hl ⟨size, r, hs, rfl, s1, hc, hr, h⟩
  show db_counted C _ [some (.lst (frameL size r hs)), none, none, none, none, none, none, none] M
  unfold db_counted
  have hhl : (hs.map hostD).length = hs.length := List.length_map _
  have hf := hc.few
  have hal := allM_len hc
  infer_instance
  intro c hcn
  refine lc_all hostD (fun o => .tup [.str o.name, .int 0]) hcn (by rw [sizeLine_eq]; omega) (fun _ => rfl) (fun o ho acc hz nx hnx => ?_) ?_
  · show gdTup 3 _ (.tup [.str o.name, .str o.rack, intsT o.marks]) _ _ _ _
    infer_instance
    exact acc_put hz hnx
  infer_instance
  refine ⟨_, _, _, rfl, rfl, zero_kv hs, fun a han => ?_⟩
  rw [zero_merge hc]
  infer_instance
  have hA1 : (mset M a (.dc (numKv (fun _ => 0) hs))) a = some (.dc (numKv (fun _ => 0) hs)) := mset_same
  have hK1 : Kept M (mset M a (.dc (numKv (fun _ => 0) hs))) := Kept.new han
  generalize mset M a (.dc (numKv (fun _ => 0) hs)) = M1 at *
  refine ⟨size, hs, rfl, hc, fun ms M2 hmp hms hK2 => ?_⟩
  obtain rfl := borders_all hc hmp hms
  have hA2 := hK2 _ _ hA1
  infer_instance
  refine ⟨size, allM hs, rfl, by omega, allM_ne hc, by omega, ?_⟩
  infer_instance
  have hK02 := hK1.trans hK2
  refine for_map triD (xs := partF size (allM hs)) (fun i env M' => ∃ (w2 w3 w4 w5 : Option D), Kept M M' ∧ M' a = some (.dc (numKv (fun x => partN (fun t => decide (x ∈ keepF size r hs t.2.2)) ((partF size (allM hs)).take i)) hs)) ∧ env = [some (.lst (frameL size r hs)), some (.cel a), w2, w3, w4, w5, none, none]) ?_ ?_ _ _ ⟨_, _, _, _, hK02, hA2, rfl⟩
  · rintro env M' ⟨w2, w3, w4, w5, hK, hA, rfl⟩
    refine ⟨rfl, ?_⟩
    rw [List.take_length] at hA
    infer_instance
    exact h a M' han hA hK
  · rintro i t env M' ht ⟨w2, w3, w4, w5, hK, hA, rfl⟩ nx hnx
    refine ⟨rfl, ?_⟩
    have hti : (partF size (allM hs)).take (i + 1) = (partF size (allM hs)).take i ++ [t] := by rw [List.take_add_one, ht]; rfl
    show gdTup 3 _ (.tup [.int t.1, .int t.2.1, .int t.2.2]) _ _ _ _
    infer_instance
    refine ⟨size, t.2.2, r, hs, rfl, by omega, hc, fun ns M3 hw hK3 => ?_⟩
    obtain rfl := far_eq hc hw
    have hwl := walkF_len (p := t.2.2) hc
    infer_instance
    refine ⟨size, r, hs, walkF size hs t.2.2, rfl, hc, hr, by omega, walkF_in hc, fun M4 hK4 => ?_⟩
    rw [← keepF_L hc hr]
    have hA4 := hK4 _ _ (hK3 _ _ hA)
    have hK04 := (hK.trans hK3).trans hK4
    infer_instance
    refine for_map D.str (xs := keepF size r hs t.2.2) (fun j env M'' => ∃ (w5 : Option D), Kept M M'' ∧ M'' a = some (.dc (numKv (fun x => partN (fun t => decide (x ∈ keepF size r hs t.2.2)) ((partF size (allM hs)).take i) + if x ∈ (keepF size r hs t.2.2).take j then t.2.1 else 0) hs)) ∧ env = [some (.lst (frameL size r hs)), some (.cel a), some (.int t.1), some (.int t.2.1), some (.int t.2.2), w5, none, none]) ?_ ?_ _ _ ⟨_, hK04, ?_, rfl⟩
    · rintro env M'' ⟨w5, hK', hA', rfl⟩
      refine ⟨rfl, ?_⟩
      refine hnx _ _ ⟨_, _, _, _, hK', ?_, rfl⟩
      rw [hA', hti, List.take_length]
      congr 2
      refine num_congr fun x _ => ?_
      rw [part_snoc]
      by_cases e : x ∈ keepF size r hs t.2.2
      · rw [if_pos e, if_pos (decide_eq_true e)]
      · rw [if_neg e, if_neg (by simpa using e)]
    · rintro j x env M'' hx ⟨w5, hK', hA', rfl⟩ nx2 hnx2
      refine ⟨rfl, ?_⟩
      have hxm := List.mem_of_getElem? hx
      have hxn := keepF_in hc hr x hxm
      have hj : (keepF size r hs t.2.2).take (j + 1) = (keepF size r hs t.2.2).take j ++ [x] := by rw [List.take_add_one, hx]; rfl
      have hnj : x ∉ (keepF size r hs t.2.2).take j := fun z => by
        have nd := keepF_nd (size := size) (p := t.2.2) (r := r) hc
        obtain ⟨n, hn, e⟩ := List.mem_iff_getElem.mp z
        obtain ⟨h1, h2⟩ := List.getElem?_eq_some_iff.mp hx
        rw [List.length_take] at hn
        rw [List.getElem_take] at e
        have := List.pairwise_iff_getElem.mp nd n j (by omega) h1 (by omega)
        rw [e, h2] at this
        exact this rfl
      infer_instance
      refine ⟨a, _, .inr x, _, rfl, hA', rfl, num_get hxn, ?_⟩
      infer_instance
      refine ⟨a, _, _, rfl, hA', rfl, by rw [num_len, sizeLine_eq]; omega, ?_⟩
      rw [num_set hxn]
      refine hnx2 _ _ ⟨_, hK'.put han, ?_, rfl⟩
      rw [mset_same]
      congr 2
      refine num_congr fun y _ => ?_
      rw [hj]
      by_cases e : y = x
      · subst e
        rw [if_pos rfl, if_neg hnj, if_pos (by simp)]; omega
      · rw [if_neg e]
        by_cases e2 : y ∈ (keepF size r hs t.2.2).take j
        · rw [if_pos e2, if_pos (List.mem_append_left _ e2)]
        · rw [if_neg e2, if_neg (fun z => (List.mem_append.mp z).elim e2 fun z => e (by simpa using z))]
    · rw [hA4]
      congr 2
      refine num_congr fun x _ => ?_
      rw [List.take_zero, if_neg (by simp)]; omega
theorem split_pre {hs : List Host} : ∀ (ns seen fs os : List Str), ∃ t, (splitR hs seen fs os ns).1 = fs ++ t
  | [], seen, fs, os => ⟨[], by simp [splitR]⟩
  | x :: r, seen, fs, os => by
    unfold splitR
    split
    · exact split_pre r _ _ _
    · obtain ⟨t, e⟩ := split_pre (hs := hs) r (seen ++ [rackOf hs x]) (fs ++ [x]) os
      exact ⟨x :: t, by rw [e, List.append_assoc]; rfl⟩
theorem keep_head {size p : Int} {r : Rule} {hs : List Host} (hr : RuleOk r) {x : Str} {l : List Str} (e : walkF size hs p = x :: l) : (keepF size r hs p).head? = some x := by
  have hw := hr.w
  obtain ⟨w, hwd⟩ : ∃ w : Nat, r.wide.toNat = w + 1 := ⟨r.wide.toNat - 1, by omega⟩
  unfold keepF keepersOf
  rw [e, hwd]
  split
  · have h1 : ∃ t, newRacks hs (x :: l) = x :: t := by
      unfold newRacks splitR
      rw [if_neg (by simp)]
      obtain ⟨t, e2⟩ := split_pre (hs := hs) l ([] ++ [rackOf hs x]) ([] ++ [x]) []
      rw [e2]
      exact ⟨t ++ _, rfl⟩
    obtain ⟨t, e2⟩ := h1
    rw [e2]; rfl
  · rfl
theorem kp_firsts (C : Addr) : Keeps N_firsts 1 (sd_firsts C) (db_firsts C) := by
  rintro ds M q ex hl ⟨size, r, hs, rfl, s1, hc, hr, h⟩
  show db_firsts C _ [some (.lst (frameL size r hs)), none, none, none, none, none, none, none] M
  unfold db_firsts
  have hhl : (hs.map hostD).length = hs.length := List.length_map _
  have hf := hc.few
  have hal := allM_len hc
  infer_instance
  intro c hcn
  refine lc_all hostD (fun o => .tup [.str o.name, .int 0]) hcn (by rw [sizeLine_eq]; omega) (fun _ => rfl) (fun o ho acc hz nx hnx => ?_) ?_
  · show gdTup 3 _ (.tup [.str o.name, .str o.rack, intsT o.marks]) _ _ _ _
    infer_instance
    exact acc_put hz hnx
  infer_instance
  refine ⟨_, _, _, rfl, rfl, zero_kv hs, fun a han => ?_⟩
  rw [zero_merge hc]
  infer_instance
  have hA1 : (mset M a (.dc (numKv (fun _ => 0) hs))) a = some (.dc (numKv (fun _ => 0) hs)) := mset_same
  have hK1 : Kept M (mset M a (.dc (numKv (fun _ => 0) hs))) := Kept.new han
  generalize mset M a (.dc (numKv (fun _ => 0) hs)) = M1 at *
  refine ⟨size, hs, rfl, hc, fun ms M2 hmp hms hK2 => ?_⟩
  obtain rfl := borders_all hc hmp hms
  have hA2 := hK2 _ _ hA1
  infer_instance
  refine ⟨size, allM hs, rfl, by omega, allM_ne hc, by omega, ?_⟩
  infer_instance
  have hK02 := hK1.trans hK2
  refine for_map triD (xs := partF size (allM hs)) (fun i env M' => ∃ (w2 w3 w4 w5 : Option D), Kept M M' ∧ M' a = some (.dc (numKv (fun x => partN (fun t => decide ((keepF size r hs t.2.2).head? = some x)) ((partF size (allM hs)).take i)) hs)) ∧ env = [some (.lst (frameL size r hs)), some (.cel a), w2, w3, w4, w5, none, none]) ?_ ?_ _ _ ⟨_, _, _, _, hK02, hA2, rfl⟩
  · rintro env M' ⟨w2, w3, w4, w5, hK, hA, rfl⟩
    refine ⟨rfl, ?_⟩
    rw [List.take_length] at hA
    infer_instance
    exact h a M' han hA hK
  · rintro i t env M' ht ⟨w2, w3, w4, w5, hK, hA, rfl⟩ nx hnx
    refine ⟨rfl, ?_⟩
    have hti : (partF size (allM hs)).take (i + 1) = (partF size (allM hs)).take i ++ [t] := by rw [List.take_add_one, ht]; rfl
    show gdTup 3 _ (.tup [.int t.1, .int t.2.1, .int t.2.2]) _ _ _ _
    infer_instance
    refine ⟨size, t.2.2, r, hs, rfl, by omega, hc, fun ns M3 hw hK3 => ?_⟩
    obtain rfl := far_eq hc hw
    have hwl := walkF_len (p := t.2.2) hc
    obtain ⟨x, l, ew⟩ : ∃ x l, walkF size hs t.2.2 = x :: l := by
      cases e : walkF size hs t.2.2 with
      | nil => rw [e] at hwl; exact absurd (List.length_eq_zero_iff.mp hwl.symm) hc.ne
      | cons a b => exact ⟨a, b, rfl⟩
    have hxn : x ∈ hs.map (·.name) := walkF_in hc x (by rw [ew]; exact List.mem_cons_self)
    have hh := keep_head hr ew
    rw [ew]
    have hA4 := hK3 _ _ hA
    have hK04 := hK.trans hK3
    infer_instance
    refine ix_lst (d := .str x) ?_ ?_
    · exact atI_zero
    infer_instance
    refine ⟨a, _, .inr x, _, rfl, hA4, rfl, num_get hxn, ?_⟩
    infer_instance
    refine ⟨a, _, _, rfl, hA4, rfl, by rw [num_len, sizeLine_eq]; omega, ?_⟩
    rw [num_set hxn]
    refine hnx _ _ ⟨_, _, _, _, hK04.put han, ?_, rfl⟩
    rw [mset_same]
    congr 2
    refine num_congr fun y _ => ?_
    rw [hti, part_snoc]
    by_cases e : y = x
    · subst e
      rw [if_pos rfl, if_pos (decide_eq_true hh)]
    · rw [if_neg e, if_neg]
      · omega
      · rw [hh]
        intro z
        exact e (Option.some.inj (of_decide_eq_true z)).symm
end L18
set_option maxRecDepth 100000
set_option maxHeartbeats 1000000
namespace L18
open PySem PySem.Spec PyProof.Rows L2 DL R
local macro_rules | `(tactic| bv_omega) => `(tactic| first | assumption | exact mset_same)
local macro_rules | `(tactic| symm) => `(tactic| first
  | ((with_reducible show ∃ _, _ = _ ∧ _); refine ⟨_, rfl, ?_⟩)
  | ((with_reducible show _ = _ ∧ _); refine ⟨rfl, ?_⟩)
  | ((with_reducible show ∃ _ _, _ = _ ∧ _ = _ ∧ _); refine ⟨_, _, rfl, rfl, ?_⟩)
  | ((with_reducible show ∃ _ _, _ = _ ∧ _); refine ⟨_, _, rfl, ?_⟩)
  | ((with_reducible show ∃ _ _ _, _ = _ ∧ _); refine ⟨_, _, _, rfl, ?_⟩)
  | ((with_reducible show (_ ≤ _ ∧ _) ∧ _); refine ⟨by omega, ?_⟩)
  | with_reducible refine add_int ?_ | with_reducible refine sub_int ?_
  | with_reducible refine lt_int ?_ | with_reducible refine le_int ?_ | with_reducible refine gt_int ?_ | with_reducible refine ge_int ?_
  | with_reducible refine int_int ?_
  | with_reducible refine eq_int ?_ | with_reducible refine ne_int ?_
  | with_reducible refine len_tup ?_ | with_reducible refine len_lst ?_
  | ((with_reducible show rdIx (.cel _) (.int _) _ _); refine ix_cel (by bv_omega) (by rfl) ?_)
  | ((with_reducible show rdIx (.lst _) (.int _) _ _); refine ix_lst (by rfl) ?_)
  | ((with_reducible show rdIx (.tup _) (.int _) _ _); refine ix_tup (by rfl) ?_)
  | ((with_reducible show rdLen [.cel _] _ _); refine len_cel (by bv_omega) ?_)
  | ((with_reducible show rdMul (.int _) (.int _) _ _); first | refine mul_l (by decide) (by decide) ?_ | refine mul_r (by decide) (by decide) ?_ | refine mul_l (by omega) (by omega) ?_ | refine mul_r (by omega) (by omega) ?_)
  | ((with_reducible show rdDiv (.int _) (.int _) _ _); refine div_int (by first | decide | assumption | omega) (by first | decide | assumption | omega) ?_)
  | ((with_reducible show rdDivmod [.int _, .int _] _ _); refine dm_int (by first | decide | assumption | omega) (by first | decide | assumption | omega) ?_)
  | ((with_reducible show @ite _ (_ = true) _ _ _); first | refine ifYes (by first | with_reducible rfl | exact Bool.not_false | assumption) ?_ | refine ifNo (by first | with_reducible rfl | exact Bool.not_true | assumption) ?_)
  | ((with_reducible show ∃ _, _ ∧ _); refine ⟨_, celL_of (by bv_omega), ?_⟩)
  | ((with_reducible show ∃ _ _ _ _, _ ∧ _ ∧ _ ∧ _ ∧ _); refine ⟨_, _, _, _, rfl, rfl, by bv_omega, by rfl, ?_⟩)
  | ((with_reducible show (_ : Nat) ≤ sizeLine ∧ _); refine ⟨by rw [sizeLine_eq]; exact Nat.le_of_ble_eq_true rfl, ?_⟩))
local macro_rules | `(tactic| infer_instance) => `(tactic| ((repeat symm); try dsimp only))
local macro_rules | `(tactic| ac_rfl) => `(tactic| ((repeat (first | symm | ((with_reducible show rdMod (.int _) (.int _) _ _); refine mod_any (by first | decide | assumption | omega) ?_; intro _ _ _))); try dsimp only))
noncomputable def cntL (size : Int) (r : Rule) (hs : List Host) (x : Str) (p : Int) : Int := if decide ((keepF size r hs p).head? = some x) = true then 1 else 0
theorem lead_all {size : Int} {r : Rule} {hs : List Host} (s1 : 1 ≤ size) (hc : CrewOk size hs) (x : Str) : leadN size r hs x = sumTo (cntL size r hs x) size.toNat := by
  unfold leadN
  rw [filter_wsum (p := fun m => decide ((keepF size r hs m).head? = some x))]
  exact cells_sumTo s1 hc (fun w => if decide ((keepersOf r hs w).head? = some x) = true then 1 else 0)
theorem keep_size {size p : Int} {r : Rule} {hs : List Host} (hr : RuleOk r) (hc : CrewOk size hs) : ((keepF size r hs p).length : Int) = min r.wide hs.length := by
  have hw := hr.w
  have hl := walkF_len (p := p) hc
  unfold keepF keepersOf
  rw [List.length_take]
  have e : (if r.spread = "racks" then newRacks hs (walkF size hs p) else walkF size hs p).length = hs.length := by
    split
    · rw [(newRacks_perm _).length_eq, hl]
    · exact hl
  rw [e]
  omega
theorem names_sum {p : Str → Bool} {ys K : List Str} (nd : ys.Nodup) (nk : K.Nodup) (hK : ∀ x ∈ K, x ∈ ys) (hp : ∀ x, p x = true ↔ x ∈ K) : (ys.map fun x => (if p x = true then 1 else 0 : Int)).sum = (K.length : Int) := by
  rw [sum_ite]
  have hP : (ys.filter p).Perm K := (List.perm_ext_iff_of_nodup (List.Pairwise.sublist List.filter_sublist nd) nk).mpr fun x => by
    rw [List.mem_filter]
    exact ⟨fun z => (hp x).mp z.2, fun z => ⟨hK x z, (hp x).mpr z⟩⟩
  rw [hP.length_eq]
theorem sum_const {f : Int → Int} {c : Int} (h : ∀ p, f p = c) (size : Int) (s0 : 0 ≤ size) : sumTo f size.toNat = size * c := by
  have := sumTo_const (f := f) (c := c) 0 size.toNat fun p _ _ => h p
  rw [Nat.zero_add] at this
  rw [this]
  show (0 : Int) + _ = _
  rw [show ((size.toNat : Nat) : Int) = size by omega]; omega
theorem shares_sum {size : Int} {r : Rule} {hs : List Host} (s1 : 1 ≤ size) (hr : RuleOk r) (hc : CrewOk size hs) {ys : List Str} (hp : ys.Perm (hs.map (·.name))) : (ys.map (keptN size r hs)).sum = size * min r.wide hs.length := by
  have e1 : ys.map (keptN size r hs) = ys.map fun x => sumTo (cntK size r hs x) size.toNat := List.map_congr_left fun x _ => kept_all s1 hc x
  have nd : ys.Nodup := hp.nodup_iff.mpr (crew_nodup hc)
  rw [e1, sum_swap]
  refine sum_const (fun p => ?_) size (by omega)
  rw [← keep_size (p := p) hr hc]
  exact names_sum nd (keepF_nd hc) (fun x hx => hp.mem_iff.mpr (keepF_in hc hr x hx)) fun x => by simp
theorem leads_sum {size : Int} {r : Rule} {hs : List Host} (s1 : 1 ≤ size) (hr : RuleOk r) (hc : CrewOk size hs) {ys : List Str} (hp : ys.Perm (hs.map (·.name))) : (ys.map (leadN size r hs)).sum = size := by
  have e1 : ys.map (leadN size r hs) = ys.map fun x => sumTo (cntL size r hs x) size.toNat := List.map_congr_left fun x _ => lead_all s1 hc x
  have nd : ys.Nodup := hp.nodup_iff.mpr (crew_nodup hc)
  rw [e1, sum_swap]
  have e2 : sumTo (fun p => (ys.map fun x => cntL size r hs x p).sum) size.toNat = size * 1 := by
    refine sum_const (fun p => ?_) size (by omega)
    obtain ⟨y, l, e⟩ := keepF_ne (size := size) (p := p) hc hr
    have := names_sum (p := fun x => decide ((keepF size r hs p).head? = some x)) nd (K := [y]) (by simp) (fun x hx => by
      rw [List.mem_singleton.mp hx]
      exact hp.mem_iff.mpr (keepF_in hc hr y (by rw [e]; exact List.mem_cons_self))) (fun x => by
      rw [e, decide_eq_true_iff, List.mem_singleton]
      exact ⟨fun z => (Option.some.inj z).symm, fun z => by rw [z]; rfl⟩)
    exact this
  rw [e2, Int.mul_one]
theorem sum01 {f : Int → Int} (h : ∀ p, f p = 0 ∨ f p = 1) : ∀ n : Nat, 0 ≤ sumTo f n ∧ sumTo f n ≤ n
  | 0 => ⟨Int.le_refl _, Int.le_refl _⟩
  | n + 1 => by
    have ih := sum01 h n
    show 0 ≤ sumTo f n + f n ∧ sumTo f n + f n ≤ ((n + 1 : Nat) : Int)
    rcases h n with e | e <;> rw [e] <;> omega
theorem kept_bnd {size : Int} {r : Rule} {hs : List Host} (s1 : 1 ≤ size) (hc : CrewOk size hs) (x : Str) : 0 ≤ keptN size r hs x ∧ keptN size r hs x ≤ size := by
  rw [kept_all s1 hc]
  have := sum01 (f := cntK size r hs x) (fun p => by unfold cntK; split <;> simp) size.toNat
  omega
theorem lead_bnd {size : Int} {r : Rule} {hs : List Host} (s1 : 1 ≤ size) (hc : CrewOk size hs) (x : Str) : 0 ≤ leadN size r hs x ∧ leadN size r hs x ≤ size := by
  rw [lead_all s1 hc]
  have := sum01 (f := cntL size r hs x) (fun p => by unfold cntL; split <;> simp) size.toNat
  omega
theorem kp_right (C : Addr) : Keeps N_right 1 (sd_right C) (db_right C) := by
  rintro ds M q ex hl ⟨k, rfl, hK, h⟩
  show db_right C _ [some (.cel k), none, none, none, none, none, none, none] M
  unfold db_right
  infer_instance
  refine ⟨k, _, rfl, hK, by omega, fun size M1 s1 s2 hB1 hK1 => ?_⟩
  infer_instance
  refine ⟨k, _, _, _, rfl, (fun z => nomatch z), rfl, by simp, by simp, hK1, by omega, fun y M2 my hB2 hK2 => ?_⟩
  obtain ⟨each, e1, e4, rfl⟩ : ∃ each : Nat, 1 ≤ each ∧ each ≤ 4 ∧ y = .int (each : Nat) := by
    simp only [List.mem_cons, List.not_mem_nil, or_false] at my
    rcases my with rfl | rfl | rfl
    · exact ⟨1, by decide, by decide, rfl⟩
    · exact ⟨2, by decide, by decide, rfl⟩
    · exact ⟨4, by decide, by decide, rfl⟩
  infer_instance
  refine ⟨k, size, _, 12, each, rfl, by omega, by decide, by decide, e1, by omega, hK2, by omega, fun r hs M3 hr hc hf hB3 hK3 => ?_⟩
  have h64 : (crewM hs).length < 64 := by
    have h3 := sum_le (l := hs) (f := fun o : Host => o.marks.length) (b := 4) fun o ho => Nat.le_trans (hf.2 o ho) e4
    have := hf.1
    unfold crewM
    rw [List.length_flatMap]
    omega
  infer_instance
  refine ⟨k, _, size, r, hs, rfl, s1, s2, hr, hc, hK3, by omega, fun M4 hB4 hK4 => ?_⟩
  have hB04 := ((hB1.trans hB2).trans hB3).trans hB4
  infer_instance
  refine ⟨size, r, hs, rfl, s1, hc, hr, fun a M5 ha5 hA5 hK5 => ?_⟩
  infer_instance
  refine ⟨size, r, hs, rfl, s1, hc, hr, fun b M6 hb6 hB6 hK6 => ?_⟩
  have hA6 := hK6 _ _ hA5
  have hab : b ≠ a := fun e => by rw [e, hA5] at hb6; cases hb6
  have hn12 : (hs.map (·.name)).length ≤ 12 := by rw [List.length_map]; exact hc.few
  have hnm : ∀ x ∈ hs.map (·.name), nameB x = true := fun x hx => by
    obtain ⟨o, ho, rfl⟩ := List.mem_map.mp hx
    exact (crew_hostT hc ho).name
  have ekD : ∀ g : Str → Int, (numKv g hs).map (fun kv => kD kv.1) = (hs.map (·.name)).map D.str := fun g => by unfold numKv; rw [List.map_map, List.map_map]; rfl
  have ekk : ∀ g : Str → Int, (numKv g hs).map (·.1) = (hs.map (·.name)).map Sum.inr := fun g => by unfold numKv; rw [List.map_map, List.map_map]; rfl
  have hkb := kept_bnd (r := r) s1 hc
  have hlb := lead_bnd (r := r) s1 hc
  have hBM6 : KeptB k M M6 := hB04.trans (hK5.trans hK6).b
  have hKg6 := kg_kept (kg_kept hK4 hK5) hK6
  infer_instance
  refine ⟨size, r, hs, rfl, s1, hc, hr, h64, fun ys M7 hp hys hK7 => ?_⟩
  have hA7 := hK7 _ _ hA6
  have hB7 := hK7 _ _ hB6
  have hyl : ys.length ≤ 12 := by rw [hp.length_eq]; exact hn12
  have shT := sh_tis (g := keptN size r hs) hyl (fun y hy => hnm y (hp.mem_iff.mp hy)) fun y _ => ⟨(hkb y).1, by have := (hkb y).2; omega⟩
  infer_instance
  refine ⟨_, _, rfl, py_tisT, shT, ?_⟩
  infer_instance
  refine ⟨a, _, _, rfl, hA7, ekk _, by omega, fun zs hp2 hs2 => ?_⟩
  obtain rfl : zs = ys := sortedS_uniq (hp2.trans hp.symm) hs2 hys
  infer_instance
  intro c hcn
  have hca : c ≠ a := fun e => by rw [e, hA7] at hcn; cases hcn
  refine lc_all D.str (fun x => .tup [.str x, .int (keptN size r hs x)]) hcn (by rw [sizeLine_eq]; omega) (fun _ => rfl) (fun x hx acc hz nx hnx => ?_) ?_
  · infer_instance
    refine ⟨a, _, .inr x, _, rfl, by rw [mset_ne (Ne.symm hca)]; exact hA7, rfl, num_get (hp.mem_iff.mp hx), ?_⟩
    infer_instance
    exact acc_put hz hnx
  infer_instance
  refine ⟨_, _, rfl, rfl, ?_⟩
  infer_instance
  refine ⟨_, _, rfl, py_tisT, shT, ?_⟩
  infer_instance
  refine ne_same ?_
  infer_instance
  -- kept of each
  refine ⟨a, _, rfl, hA7, fun o rs => ?_⟩
  infer_instance
  refine ⟨a, o, rs, _, rfl, mset_same, ?_⟩
  rw [ekD]
  intro c2 hc2
  refine lc_kept D.str (fun x => .int (keptN size r hs x)) hc2 (by rw [sizeLine_eq]; omega) (fun M' hK' => hK' _ _ mset_same) (fun x hx M8 hK8 K K2 hk => ?_) fun M8 hK8 => ?_
  · infer_instance
    refine ⟨size, r, hs, x, rfl, s1, hc, hr, h64, hx, fun M9 hK9 => ?_⟩
    exact hk M9 hK9
  obtain ⟨f8, hK78⟩ := lock_back hA7 hK8
  refine ⟨f8, ?_⟩
  have hA8 : (mset M8 a (.dc (numKv (keptN size r hs) hs))) a = some (.dc (numKv (keptN size r hs) hs)) := mset_same
  generalize mset M8 a (.dc (numKv (keptN size r hs) hs)) = M9 at *
  have hB9 := hK78 _ _ hB7
  have eki : ((hs.map (·.name)).map fun x => D.int (keptN size r hs x)) = ((hs.map (·.name)).map (keptN size r hs)).map D.int := by rw [List.map_map (f := keptN size r hs)]; rfl
  have eli : ((hs.map (·.name)).map fun x => D.int (leadN size r hs x)) = ((hs.map (·.name)).map (leadN size r hs)).map D.int := by rw [List.map_map (f := leadN size r hs)]; rfl
  have shK : showOk (.list (((hs.map (·.name)).map (keptN size r hs)).map PyData.int)) := sh_intL (by rw [List.length_map]; exact hn12) fun y hy => by
    obtain ⟨x, _, rfl⟩ := List.mem_map.mp hy
    exact ⟨(hkb x).1, by have := (hkb x).2; omega⟩
  have shL : showOk (.list (((hs.map (·.name)).map (leadN size r hs)).map PyData.int)) := sh_intL (by rw [List.length_map]; exact hn12) fun y hy => by
    obtain ⟨x, _, rfl⟩ := List.mem_map.mp hy
    exact ⟨(hlb x).1, by have := (hlb x).2; omega⟩
  rw [eki]
  infer_instance
  refine ⟨_, _, rfl, py_intL, shK, ?_⟩
  infer_instance
  refine ⟨a, _, rfl, hA8, fun o2 rs2 => ?_⟩
  infer_instance
  refine ⟨a, o2, rs2, _, rfl, mset_same, ?_⟩
  rw [ekD]
  intro c3 hc3
  have hca3 : a ≠ c3 := fun e => by rw [← e, mset_same] at hc3; cases hc3
  refine lc_all D.str (fun x => .int (keptN size r hs x)) hc3 (by rw [sizeLine_eq]; omega) (fun acc => by rw [mset_ne hca3]; exact mset_same) (fun x hx acc hz nx hnx => ?_) ?_
  · infer_instance
    refine ⟨a, _, _, _, .inr x, _, rfl, by rw [mset_ne hca3]; exact mset_same, rfl, num_get hx, ?_⟩
    exact acc_put hz hnx
  obtain ⟨f9, hK99⟩ := lock_back hA8 (Kept.refl (mset M9 a (.fd o2 rs2 (numKv (keptN size r hs) hs))))
  refine ⟨f9, ?_⟩
  have hA10 : (mset (mset M9 a (.fd o2 rs2 (numKv (keptN size r hs) hs))) a (.dc (numKv (keptN size r hs) hs))) a = some (.dc (numKv (keptN size r hs) hs)) := mset_same
  generalize mset (mset M9 a (.fd o2 rs2 (numKv (keptN size r hs) hs))) a (.dc (numKv (keptN size r hs) hs)) = M10 at *
  have hB10 := hK99 _ _ hB9
  rw [eki]
  infer_instance
  refine ⟨_, _, rfl, py_intL, shK, ?_⟩
  infer_instance
  refine ne_same ?_
  infer_instance
  -- leads of each
  refine ⟨a, _, rfl, hA10, fun o3 rs3 => ?_⟩
  infer_instance
  refine ⟨a, o3, rs3, _, rfl, mset_same, ?_⟩
  rw [ekD]
  intro c4 hc4
  refine lc_kept D.str (fun x => .int (leadN size r hs x)) hc4 (by rw [sizeLine_eq]; omega) (fun M' hK' => hK' _ _ mset_same) (fun x hx M8 hK8 K K2 hk => ?_) fun M8' hK8' => ?_
  · infer_instance
    refine ⟨size, r, hs, x, rfl, s1, hc, hr, h64, hx, fun M9 hK9 => ?_⟩
    exact hk M9 hK9
  obtain ⟨f11, hK1011⟩ := lock_back hA10 hK8'
  refine ⟨f11, ?_⟩
  have hA11 : (mset M8' a (.dc (numKv (keptN size r hs) hs))) a = some (.dc (numKv (keptN size r hs) hs)) := mset_same
  generalize mset M8' a (.dc (numKv (keptN size r hs) hs)) = M11 at *
  have hB11 := hK1011 _ _ hB10
  rw [eli]
  infer_instance
  refine ⟨_, _, rfl, py_intL, shL, ?_⟩
  infer_instance
  refine ⟨a, _, rfl, hA11, fun o4 rs4 => ?_⟩
  infer_instance
  refine ⟨a, o4, rs4, _, rfl, mset_same, ?_⟩
  rw [ekD]
  intro c5 hc5
  have hca5 : a ≠ c5 := fun e => by rw [← e, mset_same] at hc5; cases hc5
  have hbf : (mset M11 a (.fd o4 rs4 (numKv (keptN size r hs) hs))) b = some (.dc (numKv (leadN size r hs) hs)) := by rw [mset_ne hab]; exact hB11
  have hcb5 : b ≠ c5 := fun e => by rw [← e, hbf] at hc5; cases hc5
  refine lc_all D.str (fun x => .int (leadN size r hs x)) hc5 (by rw [sizeLine_eq]; omega) (fun acc => by rw [mset_ne hca5]; exact mset_same) (fun x hx acc hz nx hnx => ?_) ?_
  · infer_instance
    refine ⟨b, _, .inr x, _, rfl, by rw [mset_ne hcb5]; exact hbf, rfl, num_get hx, ?_⟩
    exact acc_put hz hnx
  obtain ⟨f12, hK1112⟩ := lock_back hA11 (Kept.refl (mset M11 a (.fd o4 rs4 (numKv (keptN size r hs) hs))))
  refine ⟨f12, ?_⟩
  have hA12 : (mset (mset M11 a (.fd o4 rs4 (numKv (keptN size r hs) hs))) a (.dc (numKv (keptN size r hs) hs))) a = some (.dc (numKv (keptN size r hs) hs)) := mset_same
  generalize mset (mset M11 a (.fd o4 rs4 (numKv (keptN size r hs) hs))) a (.dc (numKv (keptN size r hs) hs)) = M12 at *
  rw [eli]
  infer_instance
  refine ⟨_, _, rfl, py_intL, shL, ?_⟩
  infer_instance
  refine ne_same ?_
  infer_instance
  -- the greatest
  refine ⟨size, r, hs, rfl, s1, hc, hr, h64, fun m M13 hmex hmle hK13 => ?_⟩
  have hA13 := hK13 _ _ hA12
  obtain ⟨xm, hxm, hem⟩ := hmex
  have h19 : (10 : Int) ^ 19 = 10000000000000000000 := by decide
  have shm : showOk (.int m) := (Sh.int (by have := (hkb xm).1; omega) (by have := (hkb xm).2; omega)).ok (by decide) (by decide)
  infer_instance
  refine ⟨_, _, rfl, rfl, shm, ?_⟩
  infer_instance
  refine ⟨a, _, rfl, hA13, fun o5 rs5 => ?_⟩
  infer_instance
  refine ⟨a, o5, rs5, _, rfl, mset_same, ?_⟩
  rw [ekD]
  intro c6 hc6
  have hca6 : a ≠ c6 := fun e => by rw [← e, mset_same] at hc6; cases hc6
  refine lc_all D.str (fun x => .int (keptN size r hs x)) hc6 (by rw [sizeLine_eq]; omega) (fun acc => by rw [mset_ne hca6]; exact mset_same) (fun x hx acc hz nx hnx => ?_) ?_
  · infer_instance
    refine ⟨a, _, _, _, .inr x, _, rfl, by rw [mset_ne hca6]; exact mset_same, rfl, num_get hx, ?_⟩
    exact acc_put hz hnx
  obtain ⟨f14, hK1314⟩ := lock_back hA13 (Kept.refl (mset M13 a (.fd o5 rs5 (numKv (keptN size r hs) hs))))
  refine ⟨f14, ?_⟩
  generalize mset (mset M13 a (.fd o5 rs5 (numKv (keptN size r hs) hs))) a (.dc (numKv (keptN size r hs) hs)) = M14 at *
  rw [eki]
  infer_instance
  refine ⟨_, _, _, rfl, rfl, DL.ints_map _, by rw [List.length_map, List.length_map]; exact List.length_pos_iff.mpr hc.ne, fun m2 hm2 hmx2 => ?_⟩
  have emm : m2 = m := by
    obtain ⟨x2, hx2, e2⟩ := List.mem_map.mp hm2
    have h1 := hmle x2 hx2
    have h2 := hmx2 _ (List.mem_map.mpr ⟨xm, hxm, rfl⟩)
    omega
  subst emm
  infer_instance
  refine ⟨_, _, rfl, rfl, shm, ?_⟩
  infer_instance
  refine ne_same ?_
  infer_instance
  -- all together
  intro c7 hc7
  refine lc_all (fun x => (D.tup [.str x, .int (keptN size r hs x)])) (fun x => .int (keptN size r hs x)) hc7 (by rw [sizeLine_eq]; omega) (fun _ => rfl) (fun x hx acc hz nx hnx => ?_) ?_
  · infer_instance
    exact acc_put hz hnx
  have eky : (zs.map fun x => D.int (keptN size r hs x)) = (zs.map (keptN size r hs)).map D.int := by rw [List.map_map (f := keptN size r hs)]; rfl
  rw [eky]
  infer_instance
  refine ⟨_, _, _, rfl, rfl, DL.ints_map _, ?_⟩
  rw [shares_sum s1 hr hc hp]
  have hhl : (hs.map hostD).length = hs.length := List.length_map _
  infer_instance
  rw [hhl]
  have hw := hr.w
  refine min_int fun mm mm1 mm2 mm3 => ?_
  have emn : min r.wide (hs.length : Int) = mm := by omega
  rw [emn]
  infer_instance
  rw [decide_eq_true rfl]
  infer_instance
  intro c8 hc8
  refine lc_kept (fun x => (D.tup [.str x, .int (keptN size r hs x)])) (fun x => .int (leadN size r hs x)) hc8 (by rw [sizeLine_eq]; omega) (fun M' hK' => rfl) (fun x hx M8 hK8 K K2 hk => ?_) fun M15 hK15 => ?_
  · infer_instance
    refine ⟨size, r, hs, x, rfl, s1, hc, hr, h64, hp.mem_iff.mp hx, fun M9 hK9 => ?_⟩
    exact hk M9 hK9
  have ely : (zs.map fun x => D.int (leadN size r hs x)) = (zs.map (leadN size r hs)).map D.int := by rw [List.map_map (f := leadN size r hs)]; rfl
  rw [ely]
  infer_instance
  refine ⟨_, _, _, rfl, rfl, DL.ints_map _, ?_⟩
  rw [leads_sum s1 hr hc hp]
  infer_instance
  rw [decide_eq_true rfl]
  infer_instance
  have hKall : Kept M6 M15 := hK7.trans (hK78.trans (hK99.trans (hK1011.trans (hK1112.trans (hK13.trans (hK1314.trans hK15))))))
  refine ⟨k, _, rfl, kg_kept hKg6 hKall, by omega, fun M16 hB16 => ?_⟩
  exact h M16 (hBM6.trans (hKall.b.trans hB16))
end L18
set_option maxRecDepth 100000
set_option maxHeartbeats 1000000
namespace L18
open PySem PySem.Spec PyProof.Rows L2 DL R
local macro_rules | `(tactic| bv_omega) => `(tactic| first | assumption | exact mset_same)
local macro_rules | `(tactic| symm) => `(tactic| first
  | ((with_reducible show ∃ _, _ = _ ∧ _); refine ⟨_, rfl, ?_⟩)
  | ((with_reducible show _ = _ ∧ _); refine ⟨rfl, ?_⟩)
  | ((with_reducible show ∃ _ _, _ = _ ∧ _ = _ ∧ _); refine ⟨_, _, rfl, rfl, ?_⟩)
  | ((with_reducible show ∃ _ _, _ = _ ∧ _); refine ⟨_, _, rfl, ?_⟩)
  | ((with_reducible show ∃ _ _ _, _ = _ ∧ _); refine ⟨_, _, _, rfl, ?_⟩)
  | ((with_reducible show (_ ≤ _ ∧ _) ∧ _); refine ⟨by omega, ?_⟩)
  | with_reducible refine add_int ?_ | with_reducible refine sub_int ?_
  | with_reducible refine lt_int ?_ | with_reducible refine le_int ?_ | with_reducible refine gt_int ?_ | with_reducible refine ge_int ?_
  | with_reducible refine int_int ?_
  | with_reducible refine eq_int ?_ | with_reducible refine ne_int ?_
  | with_reducible refine len_tup ?_ | with_reducible refine len_lst ?_
  | ((with_reducible show rdIx (.cel _) (.int _) _ _); refine ix_cel (by bv_omega) (by rfl) ?_)
  | ((with_reducible show rdIx (.lst _) (.int _) _ _); refine ix_lst (by rfl) ?_)
  | ((with_reducible show rdIx (.tup _) (.int _) _ _); refine ix_tup (by rfl) ?_)
  | ((with_reducible show rdLen [.cel _] _ _); refine len_cel (by bv_omega) ?_)
  | ((with_reducible show rdMul (.int _) (.int _) _ _); first | refine mul_l (by decide) (by decide) ?_ | refine mul_r (by decide) (by decide) ?_ | refine mul_l (by omega) (by omega) ?_ | refine mul_r (by omega) (by omega) ?_)
  | ((with_reducible show rdDiv (.int _) (.int _) _ _); refine div_int (by first | decide | assumption | omega) (by first | decide | assumption | omega) ?_)
  | ((with_reducible show rdDivmod [.int _, .int _] _ _); refine dm_int (by first | decide | assumption | omega) (by first | decide | assumption | omega) ?_)
  | ((with_reducible show @ite _ (_ = true) _ _ _); first | refine ifYes (by first | with_reducible rfl | exact Bool.not_false | assumption) ?_ | refine ifNo (by first | with_reducible rfl | exact Bool.not_true | assumption) ?_)
  | ((with_reducible show ∃ _, _ ∧ _); refine ⟨_, celL_of (by bv_omega), ?_⟩)
  | ((with_reducible show ∃ _ _ _ _, _ ∧ _ ∧ _ ∧ _ ∧ _); refine ⟨_, _, _, _, rfl, rfl, by bv_omega, by rfl, ?_⟩)
  | ((with_reducible show (_ : Nat) ≤ sizeLine ∧ _); refine ⟨by rw [sizeLine_eq]; exact Nat.le_of_ble_eq_true rfl, ?_⟩))
local macro_rules | `(tactic| infer_instance) => `(tactic| ((repeat symm); try dsimp only))
local macro_rules | `(tactic| ac_rfl) => `(tactic| ((repeat (first | symm | ((with_reducible show rdMod (.int _) (.int _) _ _); refine mod_any (by first | decide | assumption | omega) ?_; intro _ _ _))); try dsimp only))
structure Even (size b G : Int) (N T : Nat) : Prop where
  n1 : 1 ≤ N
  n12 : N ≤ 12
  t1 : 1 ≤ T
  t4 : T ≤ 4
  g1 : 1 ≤ G
  sz : size = G * ((N * T : Nat) : Int)
def mkE (size b G : Int) (N a t : Nat) : Int := (b + G * ((N * t + a : Nat) : Int)) % size
def nmE (a : Nat) : Str := ("h" : Str) ++ numS (a : Int)
def rkE (a : Nat) : Str := ("r" : Str) ++ numS (a : Int)
def hostE (size b G : Int) (N T a : Nat) : Host := ⟨nmE a, rkE a, ascF ((List.range T).map fun t => mkE size b G N a t)⟩
def crewE (size b G : Int) (N T : Nat) : List Host := (List.range N).map (hostE size b G N T)
theorem nm_all : ((List.range 12).map nmE).Nodup ∧ ((List.range 12).map rkE).Nodup ∧ (∀ a ∈ List.range 12, nameB (nmE a) = true ∧ nameB (rkE a) = true) := by decide +kernel
theorem nm_ok {a : Nat} (h : a < 12) : nameB (nmE a) = true ∧ nameB (rkE a) = true := nm_all.2.2 a (List.mem_range.mpr h)
theorem nm_inj {a c : Nat} (ha : a < 12) (hc : c < 12) (e : nmE a = nmE c) : a = c := by
  have nd := List.pairwise_iff_getElem.mp nm_all.1
  have hl : ((List.range 12).map nmE).length = 12 := by simp
  rcases Nat.lt_trichotomy a c with z | z | z
  · exact absurd (by rw [List.getElem_map, List.getElem_map, List.getElem_range, List.getElem_range]; exact e) (nd a c (by omega) (by omega) z)
  · exact z
  · exact absurd (by rw [List.getElem_map, List.getElem_map, List.getElem_range, List.getElem_range]; exact e.symm) (nd c a (by omega) (by omega) z)
theorem rk_inj {a c : Nat} (ha : a < 12) (hc : c < 12) (e : rkE a = rkE c) : a = c := by
  have nd := List.pairwise_iff_getElem.mp nm_all.2.1
  have hl : ((List.range 12).map rkE).length = 12 := by simp
  rcases Nat.lt_trichotomy a c with z | z | z
  · exact absurd (by rw [List.getElem_map, List.getElem_map, List.getElem_range, List.getElem_range]; exact e) (nd a c (by omega) (by omega) z)
  · exact z
  · exact absurd (by rw [List.getElem_map, List.getElem_map, List.getElem_range, List.getElem_range]; exact e.symm) (nd c a (by omega) (by omega) z)
section
variable {size b G : Int} {N T : Nat}
theorem Even.s1 (E : Even size b G N T) : 1 ≤ size := by
  have h1 : 1 ≤ N * T := Nat.mul_pos E.n1 E.t1
  have h2 : G * 1 ≤ G * ((N * T : Nat) : Int) := Int.mul_le_mul_of_nonneg_left (by omega) (by have := E.g1; omega)
  rw [E.sz]
  have := E.g1
  omega
theorem slot_lt (E : Even size b G N T) {a t : Nat} (ha : a < N) (ht : t < T) : N * t + a < N * T := by
  have : N * (t + 1) ≤ N * T := Nat.mul_le_mul_left _ ht
  rw [Nat.mul_succ] at this
  omega
theorem mk_inj (E : Even size b G N T) {a t c u : Nat} (ha : a < N) (ht : t < T) (hc : c < N) (hu : u < T) (e : mkE size b G N a t = mkE size b G N c u) : a = c ∧ t = u := by
  have h1 := slot_lt E ha ht
  have h2 := slot_lt E hc hu
  have g := E.g1
  have k1 : G * ((N * t + a : Nat) : Int) < size := by rw [E.sz]; exact Int.mul_lt_mul_of_pos_left (by omega) (by omega)
  have k2 : G * ((N * u + c : Nat) : Int) < size := by rw [E.sz]; exact Int.mul_lt_mul_of_pos_left (by omega) (by omega)
  have j1 : 0 ≤ G * ((N * t + a : Nat) : Int) := Int.mul_nonneg (by omega) (by omega)
  have j2 : 0 ≤ G * ((N * u + c : Nat) : Int) := Int.mul_nonneg (by omega) (by omega)
  have e2 := mod_same (size := size) e (by omega) (by omega)
  have e3 : G * ((N * t + a : Nat) : Int) = G * ((N * u + c : Nat) : Int) := by omega
  have e4 : ((N * t + a : Nat) : Int) = ((N * u + c : Nat) : Int) := Int.eq_of_mul_eq_mul_left (by omega) e3
  have e5 : N * t + a = N * u + c := by omega
  have n1 := E.n1
  have f1 : (N * t + a) / N = t := by rw [Nat.mul_add_div (by omega), Nat.div_eq_of_lt ha]; rfl
  have f2 : (N * u + c) / N = u := by rw [Nat.mul_add_div (by omega), Nat.div_eq_of_lt hc]; rfl
  have e6 : t = u := by rw [← f1, ← f2, e5]
  subst e6
  exact ⟨by omega, rfl⟩
theorem mem_marks {a : Nat} {k : Int} : k ∈ (hostE size b G N T a).marks ↔ ∃ t, t < T ∧ k = mkE size b G N a t := by
  show k ∈ ascF _ ↔ _
  rw [ascF_mem, List.mem_map]
  constructor
  · rintro ⟨t, ht, rfl⟩; exact ⟨t, List.mem_range.mp ht, rfl⟩
  · rintro ⟨t, ht, rfl⟩; exact ⟨t, List.mem_range.mpr ht, rfl⟩
theorem crewE_ok (E : Even size b G N T) : CrewOk size (crewE size b G N T) := by
  have s1 := E.s1
  have n1 := E.n1
  have n12 := E.n12
  refine crew_of ?_ (by unfold crewE; rw [List.length_map, List.length_range]; exact n12) (fun o ho => ?_) ?_
  · intro e
    have := congrArg List.length e
    unfold crewE at this
    rw [List.length_map, List.length_range] at this
    simp at this
    omega
  · obtain ⟨a, ha, rfl⟩ := List.mem_map.mp ho
    have ha := List.mem_range.mp ha
    have hn := nm_ok (a := a) (by omega)
    refine ⟨hn.1, hn.2, ?_, ?_, ascF_pw, fun m hm => ?_⟩
    · have : mkE size b G N a 0 ∈ (hostE size b G N T a).marks := mem_marks.mpr ⟨0, E.t1, rfl⟩
      exact List.length_pos_of_mem this
    · have h1 : (hostE size b G N T a).marks.length ≤ ((List.range T).map fun t => mkE size b G N a t).length := ascF_len
      rw [List.length_map, List.length_range] at h1
      have := E.t4
      omega
    · obtain ⟨t, _, rfl⟩ := mem_marks.mp hm
      exact ⟨Int.emod_nonneg _ (by omega), Int.emod_lt_of_pos _ (by omega)⟩
  · unfold crewE
    rw [List.pairwise_map]
    refine List.Pairwise.imp_of_mem (R := fun a c : Nat => a < c) (fun {a c} ha hc h => ⟨fun e => ?_, fun m hm hm2 => ?_⟩) List.pairwise_lt_range
    · have := nm_inj (a := a) (c := c) (by have := List.mem_range.mp ha; omega) (by have := List.mem_range.mp hc; omega) e
      omega
    · obtain ⟨t, ht, rfl⟩ := mem_marks.mp hm
      obtain ⟨u, hu, e⟩ := mem_marks.mp hm2
      have := mk_inj E (List.mem_range.mp hc) ht (List.mem_range.mp ha) hu e
      omega
def nextE (N a : Nat) : Nat := (a + 1) % N
/-- the next host's name -/
noncomputable def sigE (N : Nat) (x : Str) : Str := match (List.range N).find? fun a => decide (nmE a = x) with
  | some a => nmE (nextE N a)
  | none => x
theorem sig_nm (E : Even size b G N T) {a : Nat} (ha : a < N) : sigE N (nmE a) = nmE (nextE N a) := by
  unfold sigE
  have hf : (List.range N).find? (fun c => decide (nmE c = nmE a)) = some a := by
    cases e : (List.range N).find? (fun c => decide (nmE c = nmE a)) with
    | none =>
      have := List.find?_eq_none.mp e a (List.mem_range.mpr ha)
      exact absurd (decide_eq_true rfl) this
    | some c =>
      have h1 := List.find?_some e
      have h2 := List.mem_range.mp (List.mem_of_find?_eq_some e)
      have h3 : nmE c = nmE a := of_decide_eq_true h1
      have n12 := E.n12
      rw [nm_inj (by omega) (by omega) h3]
  rw [hf]
theorem next_lt (E : Even size b G N T) (a : Nat) : nextE N a < N := Nat.mod_lt _ (by have := E.n1; omega)
theorem next_marks (E : Even size b G N T) {a : Nat} (ha : a < N) (k : Int) : k ∈ (hostE size b G N T (nextE N a)).marks ↔ ∃ m ∈ (hostE size b G N T a).marks, k = (m + G) % size := by
  have s1 := E.s1
  have n1 := E.n1
  have t1 := E.t1
  have step : ∀ t, t < T → ∃ u, u < T ∧ (mkE size b G N a t + G) % size = mkE size b G N (nextE N a) u ∧ u = (if a + 1 < N then t else (t + 1) % T) := fun t ht => by
    have base : (mkE size b G N a t + G) % size = (b + G * ((N * t + a + 1 : Nat) : Int)) % size := by
      unfold mkE
      rw [Int.emod_add_emod]
      congr 1
      rw [show ((N * t + a + 1 : Nat) : Int) = ((N * t + a : Nat) : Int) + 1 by omega, Int.mul_add G, Int.mul_one]
      omega
    rw [base]
    by_cases h : a + 1 < N
    · refine ⟨t, ht, ?_, by rw [if_pos h]⟩
      unfold mkE nextE
      rw [Nat.mod_eq_of_lt h]
      rfl
    · have ea : a + 1 = N := by omega
      have en : nextE N a = 0 := by unfold nextE; rw [ea]; exact Nat.mod_self _
      by_cases h2 : t + 1 < T
      · refine ⟨t + 1, h2, ?_, by rw [if_neg h, Nat.mod_eq_of_lt h2]⟩
        unfold mkE
        rw [en]
        congr 3
        rw [Nat.mul_succ]; omega
      · have et : t + 1 = T := by omega
        refine ⟨0, t1, ?_, by rw [if_neg h, et, Nat.mod_self]⟩
        unfold mkE
        rw [en]
        have e9 : N * t + a + 1 = N * T := by rw [← et, Nat.mul_succ]; omega
        rw [e9, ← E.sz]
        have e8 : b + size = b + size * 1 := by omega
        rw [e8, Int.add_mul_emod_self_left, Nat.mul_zero, Nat.zero_add]
        simp
  constructor
  · intro hk
    obtain ⟨u, hu, rfl⟩ := mem_marks.mp hk
    -- the turn ahead
    obtain ⟨t, ht, et⟩ : ∃ t, t < T ∧ u = (if a + 1 < N then t else (t + 1) % T) := by
      by_cases h : a + 1 < N
      · exact ⟨u, hu, by rw [if_pos h]⟩
      · by_cases h2 : u = 0
        · exact ⟨T - 1, by omega, by rw [if_neg h, h2, show T - 1 + 1 = T by omega, Nat.mod_self]⟩
        · exact ⟨u - 1, by omega, by rw [if_neg h, show u - 1 + 1 = u by omega, Nat.mod_eq_of_lt hu]⟩
    obtain ⟨u', hu', e1, e2⟩ := step t ht
    refine ⟨mkE size b G N a t, mem_marks.mpr ⟨t, ht, rfl⟩, ?_⟩
    rw [e1, e2, ← et]
  · rintro ⟨m, hm, rfl⟩
    obtain ⟨t, ht, rfl⟩ := mem_marks.mp hm
    obtain ⟨u, hu, e1, _⟩ := step t ht
    rw [e1]
    exact mem_marks.mpr ⟨u, hu, rfl⟩
theorem way_next (E : Even size b G N T) {a : Nat} (ha : a < N) {p w : Int} (h : IsWay size p (hostE size b G N T a).marks w) : IsWay size (p + G) (hostE size b G N T (nextE N a)).marks w := by
  have s1 := E.s1
  have key : ∀ y, y ∈ (hostE size b G N T (nextE N a)).marks.map (fun k => (k - (p + G)) % size) ↔ y ∈ (hostE size b G N T a).marks.map (fun k => (k - p) % size) := fun y => by
    rw [List.mem_map, List.mem_map]
    have em : ∀ m : Int, ((m + G) % size - (p + G)) % size = (m - p) % size := fun m => by
      rw [Int.emod_sub_emod]
      congr 1
      omega
    constructor
    · rintro ⟨k, hk, rfl⟩
      obtain ⟨m, hm, rfl⟩ := (next_marks E ha k).mp hk
      exact ⟨m, hm, (em m).symm⟩
    · rintro ⟨m, hm, rfl⟩
      exact ⟨(m + G) % size, (next_marks E ha _).mpr ⟨m, hm, rfl⟩, em m⟩
  exact ⟨(key w).mpr h.1, fun y hy => h.2 y ((key y).mp hy)⟩
theorem names_E : (crewE size b G N T).map (·.name) = (List.range N).map nmE := by unfold crewE; rw [List.map_map]; rfl
theorem sig_perm (E : Even size b G N T) : (((List.range N).map nmE).map (sigE N)).Perm ((List.range N).map nmE) := by
  have n12 := E.n12
  have nd : ((List.range N).map nmE).Nodup := by
    have := crew_nodup (crewE_ok E)
    rw [names_E] at this
    exact this
  have e1 : ((List.range N).map nmE).map (sigE N) = (List.range N).map fun a => nmE (nextE N a) := by
    rw [List.map_map]
    exact List.map_congr_left fun a ha => sig_nm E (List.mem_range.mp ha)
  rw [e1]
  have nd2 : ((List.range N).map fun a => nmE (nextE N a)).Nodup := by
    unfold List.Nodup
    rw [List.pairwise_map]
    refine List.Pairwise.imp_of_mem (R := fun a c : Nat => a < c) (fun {a c} ha hc h e => ?_) List.pairwise_lt_range
    have ha := List.mem_range.mp ha
    have hc := List.mem_range.mp hc
    have e2 := nm_inj (by have := next_lt E a; omega) (by have := next_lt E c; omega) e
    unfold nextE at e2
    by_cases z : c + 1 < N
    · rw [Nat.mod_eq_of_lt (by omega), Nat.mod_eq_of_lt z] at e2; omega
    · have : c + 1 = N := by omega
      rw [Nat.mod_eq_of_lt (by omega), this, Nat.mod_self] at e2; omega
  refine (List.perm_ext_iff_of_nodup nd2 nd).mpr fun x => ?_
  constructor
  · intro hx
    obtain ⟨a, ha, rfl⟩ := List.mem_map.mp hx
    exact List.mem_map.mpr ⟨_, List.mem_range.mpr (next_lt E a), rfl⟩
  · intro hx
    obtain ⟨a, ha, rfl⟩ := List.mem_map.mp hx
    have ha := List.mem_range.mp ha
    refine List.mem_map.mpr ⟨(a + (N - 1)) % N, List.mem_range.mpr (Nat.mod_lt _ (by omega)), ?_⟩
    congr 1
    unfold nextE
    by_cases z : a = 0
    · subst z
      rw [Nat.zero_add, Nat.mod_eq_of_lt (show N - 1 < N by omega), show N - 1 + 1 = N by omega, Nat.mod_self]
    · rw [show a + (N - 1) = (a - 1) + N by omega, Nat.add_mod_right, Nat.mod_eq_of_lt (show a - 1 < N by omega), show a - 1 + 1 = a by omega, Nat.mod_eq_of_lt ha]
theorem walk_next (E : Even size b G N T) (p : Int) : walkF size (crewE size b G N T) (p + G) = (walkF size (crewE size b G N T) p).map (sigE N) := by
  have hc := crewE_ok E
  obtain ⟨ws, h1, h2, h3, h4⟩ := walkF_ok hc p
  refine (walk_eq hc ⟨ws.map fun w => (w.1, sigE N w.2), ?_, ?_, ?_, fun w hw => ?_⟩).symm
  · rw [List.pairwise_map]; exact h1
  · rw [h2, List.map_map, List.map_map]; rfl
  · rw [List.map_map]
    have e : ws.map ((fun x : Int × Str => x.2) ∘ fun w => (w.1, sigE N w.2)) = (ws.map (·.2)).map (sigE N) := by rw [List.map_map]; rfl
    rw [e, names_E]
    have h5 := h3.map (sigE N)
    rw [names_E] at h5
    exact h5.trans (sig_perm E)
  · obtain ⟨v, hv, rfl⟩ := List.mem_map.mp hw
    obtain ⟨o, ho, e, hway⟩ := h4 v hv
    obtain ⟨a, ha, rfl⟩ := List.mem_map.mp ho
    have ha := List.mem_range.mp ha
    refine ⟨hostE size b G N T (nextE N a), List.mem_map.mpr ⟨_, List.mem_range.mpr (next_lt E a), rfl⟩, ?_, way_next E ha hway⟩
    show nmE (nextE N a) = sigE N v.2
    rw [← e]
    exact (sig_nm E ha).symm
theorem split_all {hs : List Host} : ∀ (ns seen fs os : List Str), (∀ x ∈ ns, rackOf hs x ∉ seen) → ns.Pairwise (fun x y => rackOf hs x ≠ rackOf hs y) → splitR hs seen fs os ns = (fs ++ ns, os)
  | [], seen, fs, os, _, _ => by simp [splitR]
  | x :: r, seen, fs, os, h, hp => by
    obtain ⟨p1, p2⟩ := List.pairwise_cons.mp hp
    unfold splitR
    rw [if_neg (h x List.mem_cons_self), split_all r _ _ _ (fun y hy z => ?_) p2]
    · rw [List.append_assoc]; rfl
    · rcases List.mem_append.mp z with z | z
      · exact h y (List.mem_cons_of_mem _ hy) z
      · exact p1 y hy (List.mem_singleton.mp z).symm
theorem keep_E (E : Even size b G N T) (r : Rule) (p : Int) : keepF size r (crewE size b G N T) p = (walkF size (crewE size b G N T) p).take r.wide.toNat := by
  have hc := crewE_ok E
  have n12 := E.n12
  unfold keepF keepersOf
  split
  · congr 1
    unfold newRacks
    have hin := walkF_in (p := p) hc
    have nd := walk_nd hc (walkF_ok hc p)
    rw [split_all _ _ _ _ (fun _ _ z => by simp at z) ?_]
    · simp
    · refine List.Pairwise.imp_of_mem (R := fun x y : Str => x ≠ y) (fun {x y} hx hy h e => h ?_) nd
      obtain ⟨o, ho, rfl⟩ := List.mem_map.mp (hin x hx)
      obtain ⟨o', ho', rfl⟩ := List.mem_map.mp (hin y hy)
      rw [crew_rack hc ho, crew_rack hc ho'] at e
      obtain ⟨a, ha, rfl⟩ := List.mem_map.mp ho
      obtain ⟨c, hc2, rfl⟩ := List.mem_map.mp ho'
      have := rk_inj (by have := List.mem_range.mp ha; omega) (by have := List.mem_range.mp hc2; omega) e
      rw [this]
  · rfl
theorem keep_next (E : Even size b G N T) (r : Rule) (p : Int) : keepF size r (crewE size b G N T) (p + G) = (keepF size r (crewE size b G N T) p).map (sigE N) := by
  rw [keep_E E, keep_E E, walk_next E, List.map_take]
theorem keep_round {r : Rule} {hs : List Host} (hc : CrewOk size hs) (p : Int) : keepF size r hs (p + size) = keepF size r hs p := by
  unfold keepF; rw [walk_mod hc]
end
theorem shift_one {f : Int → Int} : ∀ n : Nat, sumTo (fun p => f (p + 1)) n = sumTo f n + f n - f 0
  | 0 => by
    show (0 : Int) = 0 + f ((0 : Nat) : Int) - f 0
    simp
  | n + 1 => by
    have ih := shift_one (f := f) n
    show sumTo (fun p => f (p + 1)) n + f ((n : Int) + 1) = sumTo f n + f n + f (((n + 1 : Nat) : Int)) - f 0
    rw [ih]
    push_cast
    omega
theorem shift_nat {n : Nat} : ∀ (d : Nat) {f : Int → Int}, (∀ p, f (p + n) = f p) → sumTo (fun p => f (p + d)) n = sumTo f n
  | 0, f, _ => sumTo_ext (fun p => by simp) n
  | d + 1, f, h => by
    have h1 := shift_nat d (f := fun p => f (p + 1)) fun p => by
      have := h (p + 1)
      show f (p + n + 1) = f (p + 1)
      rw [show p + (n : Int) + 1 = p + 1 + n by omega]; exact this
    have h2 := shift_one (f := f) n
    have h3 := h 0
    rw [Int.zero_add] at h3
    have e : sumTo (fun p => f (p + ((d + 1 : Nat) : Int))) n = sumTo (fun p => (fun p => f (p + 1)) (p + d)) n := sumTo_ext (fun p => by
      show f _ = f _
      congr 1
      push_cast
      omega) n
    rw [e, h1, h2, h3]; omega
section
variable {size b G : Int} {N T : Nat}
theorem next_inj (E : Even size b G N T) {a c : Nat} (ha : a < N) (hc : c < N) (e : nextE N a = nextE N c) : a = c := by
  unfold nextE at e
  by_cases z : a + 1 < N
  · by_cases z2 : c + 1 < N
    · rw [Nat.mod_eq_of_lt z, Nat.mod_eq_of_lt z2] at e; omega
    · have : c + 1 = N := by omega
      rw [Nat.mod_eq_of_lt z, this, Nat.mod_self] at e; omega
  · have : a + 1 = N := by omega
    by_cases z2 : c + 1 < N
    · rw [Nat.mod_eq_of_lt z2, this, Nat.mod_self] at e; omega
    · omega
theorem even_same (E : Even size b G N T) {cnt : Str → Int → Int} (h1 : ∀ a, a < N → ∀ p, cnt (nmE (nextE N a)) (p + G) = cnt (nmE a) p) (h2 : ∀ x p, cnt x (p + size) = cnt x p) : ∀ a, a < N → sumTo (cnt (nmE a)) size.toNat = sumTo (cnt (nmE 0)) size.toNat
  | 0, _ => rfl
  | a + 1, h => by
    have s1 := E.s1
    have g1 := E.g1
    have ih := even_same E h1 h2 a (by omega)
    have en : nextE N a = a + 1 := Nat.mod_eq_of_lt h
    have e1 := shift_nat (n := size.toNat) G.toNat (f := cnt (nmE (a + 1))) fun p => by
      rw [show ((size.toNat : Nat) : Int) = size by omega]
      exact h2 _ p
    rw [← e1, ← ih]
    refine sumTo_ext (fun p => ?_) _
    have := h1 a (by omega) p
    rw [en] at this
    rw [show ((G.toNat : Nat) : Int) = G by omega]
    exact this
theorem sum_same {f : Str → Int} {c : Int} : ∀ {l : List Str}, (∀ x ∈ l, f x = c) → (l.map f).sum = (l.length : Int) * c
  | [], _ => by simp
  | x :: l, h => by
    rw [List.map_cons, List.sum_cons, sum_same fun y hy => h y (List.mem_cons_of_mem _ hy), h x List.mem_cons_self, List.length_cons]
    push_cast
    rw [Int.add_mul, Int.one_mul]; omega
theorem len_E : (crewE size b G N T).length = N := by unfold crewE; rw [List.length_map, List.length_range]
theorem nm_mem {a : Nat} (ha : a < N) : nmE a ∈ (crewE size b G N T).map (·.name) := by
  rw [names_E]; exact List.mem_map.mpr ⟨a, List.mem_range.mpr ha, rfl⟩
theorem sig_mem (E : Even size b G N T) {K : List Str} (hK : ∀ x ∈ K, x ∈ (crewE size b G N T).map (·.name)) {a : Nat} (ha : a < N) : nmE (nextE N a) ∈ K.map (sigE N) ↔ nmE a ∈ K := by
  have n12 := E.n12
  constructor
  · intro h
    obtain ⟨y, hy, e⟩ := List.mem_map.mp h
    have hy2 := hK y hy
    rw [names_E] at hy2
    obtain ⟨c, hc, rfl⟩ := List.mem_map.mp hy2
    have hc := List.mem_range.mp hc
    rw [sig_nm E hc] at e
    have e2 := nm_inj (by have := next_lt E c; omega) (by have := next_lt E a; omega) e
    rw [← next_inj E hc ha e2]
    exact hy
  · intro h
    exact List.mem_map.mpr ⟨nmE a, h, sig_nm E ha⟩
theorem kept_even (E : Even size b G N T) {r : Rule} (hr : RuleOk r) {x : Str} (hx : x ∈ (crewE size b G N T).map (·.name)) : keptN size r (crewE size b G N T) x = G * T * min r.wide N := by
  have s1 := E.s1
  have n1 := E.n1
  have hc := crewE_ok E
  have same := even_same E (cnt := cntK size r (crewE size b G N T)) (fun a ha p => by
    unfold cntK
    rw [keep_next E]
    have := sig_mem E (K := keepF size r (crewE size b G N T) p) (keepF_in hc hr) ha
    by_cases z : nmE a ∈ keepF size r (crewE size b G N T) p
    · rw [if_pos (decide_eq_true (this.mpr z)), if_pos (decide_eq_true z)]
    · rw [if_neg (by rw [decide_eq_true_iff]; exact fun w => z (this.mp w)), if_neg (by rw [decide_eq_true_iff]; exact z)]) (fun x p => by unfold cntK; rw [keep_round hc])
  have hall : ∀ y ∈ (crewE size b G N T).map (·.name), keptN size r (crewE size b G N T) y = keptN size r (crewE size b G N T) (nmE 0) := fun y hy => by
    rw [names_E] at hy
    obtain ⟨a, ha, rfl⟩ := List.mem_map.mp hy
    rw [kept_all s1 hc, kept_all s1 hc]
    exact same a (List.mem_range.mp ha)
  have h1 := sum_same hall
  rw [shares_sum s1 hr hc (.refl _), List.length_map, len_E, E.sz] at h1
  rw [hall x hx]
  have h2 : (N : Int) * (G * T * min r.wide N) = N * keptN size r (crewE size b G N T) (nmE 0) := by
    rw [← E.sz] at h1
    rw [← h1, E.sz]
    push_cast
    rw [Int.mul_assoc G, Int.mul_assoc G, Int.mul_left_comm (N : Int) G, Int.mul_assoc (N : Int)]
  exact (Int.eq_of_mul_eq_mul_left (by omega) h2).symm
theorem lead_even (E : Even size b G N T) {r : Rule} (hr : RuleOk r) {x : Str} (hx : x ∈ (crewE size b G N T).map (·.name)) : leadN size r (crewE size b G N T) x = G * T := by
  have s1 := E.s1
  have n1 := E.n1
  have hc := crewE_ok E
  have same := even_same E (cnt := cntL size r (crewE size b G N T)) (fun a ha p => by
    unfold cntL
    rw [keep_next E]
    obtain ⟨y, l, e⟩ := keepF_ne (size := size) (p := p) hc hr
    have := sig_mem E (K := [y]) (fun z hz => by rw [List.mem_singleton.mp hz]; exact keepF_in hc hr y (by rw [e]; exact List.mem_cons_self)) ha
    rw [List.map_cons, List.map_nil, List.mem_singleton, List.mem_singleton] at this
    rw [e]
    show (if decide (some (sigE N y) = some (nmE (nextE N a))) = true then (1 : Int) else 0) = if decide (some y = some (nmE a)) = true then 1 else 0
    by_cases z : nmE a = y
    · rw [if_pos (decide_eq_true (by rw [this.mpr z])), if_pos (decide_eq_true (by rw [z]))]
    · rw [if_neg (by rw [decide_eq_true_iff]; exact fun w => z (this.mp (Option.some.inj w).symm)), if_neg (by rw [decide_eq_true_iff]; exact fun w => z (Option.some.inj w).symm)]) (fun x p => by unfold cntL; rw [keep_round hc])
  have hall : ∀ y ∈ (crewE size b G N T).map (·.name), leadN size r (crewE size b G N T) y = leadN size r (crewE size b G N T) (nmE 0) := fun y hy => by
    rw [names_E] at hy
    obtain ⟨a, ha, rfl⟩ := List.mem_map.mp hy
    rw [lead_all s1 hc, lead_all s1 hc]
    exact same a (List.mem_range.mp ha)
  have h1 := sum_same hall
  rw [leads_sum s1 hr hc (.refl _), List.length_map, len_E] at h1
  rw [hall x hx]
  have h2 : (N : Int) * (G * T) = N * leadN size r (crewE size b G N T) (nmE 0) := by
    rw [← h1, E.sz]
    push_cast
    rw [Int.mul_left_comm]
  exact (Int.eq_of_mul_eq_mul_left (by omega) h2).symm
end
theorem rep_flat (x : Int) : ∀ n : Nat, (List.replicate n [D.int x]).flatten = (List.replicate n x).map D.int
  | 0 => rfl
  | n + 1 => by rw [List.replicate_succ, List.replicate_succ, List.flatten_cons, rep_flat x n]; rfl
theorem map_flat (x : Int) : ∀ ys : List Str, (ys.map fun _ => D.int x) = (List.replicate ys.length x).map D.int
  | [] => rfl
  | y :: l => by rw [List.map_cons, List.length_cons, List.replicate_succ, map_flat x l]; rfl
theorem eqv_ints : ∀ ys : List Int, PyData.eqvAll (ys.map PyData.int) (ys.map PyData.int) = true
  | [] => by simp [PyData.eqvAll]
  | y :: ys => by
    rw [List.map_cons, PyData.eqvAll, eqv_ints ys]
    simp [PyData.eqv]
theorem eqv_intsL (ys : List Int) : PyData.eqv (.list (ys.map PyData.int)) (.list (ys.map PyData.int)) = true := by rw [PyData.eqv]; exact eqv_ints ys
theorem kp_even_right (C : Addr) : Keeps N_even_right 1 (sd_even_right C) (db_even_right C) := by
  rintro ds M q ex hl ⟨k, g, rfl, hK, hg, h⟩
  show db_even_right C _ [some (.cel k), none, none, none, none, none, none, none, none, none, none, none, none, none, none] M
  unfold db_even_right
  infer_instance
  refine ⟨k, 12, _, rfl, by decide, by decide, hK, by omega, fun v M1 v0 v1 hB1 hK1 => ?_⟩
  infer_instance
  refine ⟨k, 4, _, rfl, by decide, by decide, hK1, by omega, fun u M2 u0 u1 hB2 hK2 => ?_⟩
  infer_instance
  refine pow_int (by refine ⟨?_, ?_, ?_⟩ <;> decide) ?_
  infer_instance
  refine pow_int (by refine ⟨?_, ?_, ?_⟩ <;> decide) ?_
  infer_instance
  obtain ⟨N, hN⟩ := Int.eq_ofNat_of_zero_le (show 0 ≤ 1 + v by omega)
  obtain ⟨T, hT⟩ := Int.eq_ofNat_of_zero_le (show 0 ≤ 1 + u by omega)
  have n1 : 1 ≤ N := by omega
  have n12 : N ≤ 12 := by omega
  have t1 : 1 ≤ T := by omega
  have t4 : T ≤ 4 := by omega
  have p1 : 1 ≤ N * T := Nat.mul_pos n1 t1
  have p48 : N * T ≤ 12 * 4 := Nat.mul_le_mul n12 t4
  rw [hN, hT]
  have ep : (N : Int) * (T : Int) = ((N * T : Nat) : Int) := by push_cast; rfl
  rw [ep]
  refine ⟨wide_div (b := 7) (by omega) (by omega) (by decide) (by decide), ?_⟩
  infer_instance
  refine ⟨k, _, _, _, rfl, (fun z => nomatch z), rfl, by simp, by simp, hK2, by omega, fun y M3 my hB3 hK3 => ?_⟩
  obtain ⟨n, n0, nb, rfl⟩ : ∃ n : Int, 1 ≤ n ∧ n * ((N * T : Nat) : Int) ≤ 1000000000000000000 ∧ y = .int n := by
    have e9 : (10 : Int) ^ Int.toNat 9 = 1000000000 := by decide
    have e18 : (10 : Int) ^ Int.toNat 18 = 1000000000000000000 := by decide
    rw [e9, e18] at my
    simp only [List.mem_cons, List.not_mem_nil, or_false] at my
    rcases my with rfl | rfl | rfl
    · exact ⟨3, by decide, by omega, rfl⟩
    · exact ⟨1000000000, by decide, by omega, rfl⟩
    · exact ⟨_, Int.le_ediv_of_mul_le (by omega) (by omega), Int.ediv_mul_le _ (by omega), rfl⟩
  infer_instance
  refine ⟨k, n, _, rfl, by omega, hK3, by omega, fun w M4 w0 w1 hB4 hK4 => ?_⟩
  infer_instance
  obtain ⟨G, hG⟩ : ∃ G : Int, 1 + w = G := ⟨_, rfl⟩
  rw [hG]
  have g1 : 1 ≤ G := by omega
  have gn : G ≤ n := by omega
  refine ⟨k, _, rfl, hK4, by omega, fun r M5 hr hB5 hK5 => ?_⟩
  have es : G * N * T = G * ((N * T : Nat) : Int) := by rw [Int.mul_assoc, ep]
  have ES : ∀ b, Even (G * N * T) b G N T := fun b => ⟨n1, n12, t1, t4, g1, es⟩
  have sz1 : 1 ≤ G * N * T := (ES 0).s1
  have sz2 : G * N * T ≤ 1000000000000000000 := by
    rw [es]
    have := Int.mul_le_mul_of_nonneg_right gn (show (0 : Int) ≤ ((N * T : Nat) : Int) by omega)
    omega
  infer_instance
  refine ⟨k, _, _, rfl, by omega, hK5, by omega, fun b M6 b0 b1 hB6 hK6 => ?_⟩
  infer_instance
  intro c hcn
  have hck := kg_ne hK6 hcn
  obtain ⟨size, hsize⟩ : ∃ s : Int, G * N * T = s := ⟨_, rfl⟩
  rw [hsize] at sz1 sz2 b1 ⊢
  have E : Even size b G N T := by rw [← hsize]; exact ES b
  have hC6 : (mset M6 c (.ls [])) c = some (.ls ([] : List D)) := mset_same
  have hBc : KeptB k M (mset M6 c (.ls [])) := (((((hB1.trans hB2).trans hB3).trans hB4).trans hB5).trans hB6).trans (Kept.new hcn).b
  have hKc := kg_put (x := .ls []) hK6 hcn
  have hcM : M c = none := by
    cases e : M c with
    | none => rfl
    | some y => have := (((((hB1.trans hB2).trans hB3).trans hB4).trans hB5).trans hB6) c _ e hck; rw [hcn] at this; cases this
  generalize mset M6 c (.ls []) = M7 at *
  have hrl : ((N : Int)).toNat = N := by omega
  infer_instance
  refine for_rng (n := ((N : Int)).toNat) (fun i env M' => ∃ (w8 w9 : Option D), env = [some (.cel k), some (.int N), some (.int T), some (.int G), some (.lst [.int r.wide, .str r.spread, .int r.write, .int r.read, .str r.pend]), some (.int b), some (.int size), some (.cel c), w8, w9, none, none, none, none, none] ∧ KeptB k M M' ∧ Kg M' k (g + 500) ∧ M' c = some (.ls (((List.range i).map (hostE size b G N T)).map hostD))) ?_ ?_ _ _ ⟨_, _, rfl, hBc, kg_le hKc (by omega), hC6⟩
  · rintro env M' ⟨w8, w9, rfl, hB', hK', hC'⟩
    refine ⟨trivial, ?_⟩
    rw [hrl] at hC'
    change M' c = some (.ls ((crewE size b G N T).map hostD)) at hC'
    infer_instance
    refine add_lst rfl rfl (by rw [sizeLine_eq]; exact Nat.le_of_ble_eq_true rfl) ?_
    infer_instance
    refine ⟨_, _, rfl, celL_of hC', ?_⟩
    infer_instance
    refine add_lst rfl rfl (by rw [sizeLine_eq]; exact Nat.le_of_ble_eq_true rfl) ?_
    have hc := crewE_ok E
    have few : (crewM (crewE size b G N T)).length < 64 := by
      have h3 := sum_le (l := crewE size b G N T) (f := fun o : Host => o.marks.length) (b := 4) fun o ho => by
        obtain ⟨a, _, rfl⟩ := List.mem_map.mp ho
        have h1 : (hostE size b G N T a).marks.length ≤ ((List.range T).map fun t => mkE size b G N a t).length := ascF_len
        rw [List.length_map, List.length_range] at h1
        omega
      rw [len_E] at h3
      unfold crewM
      rw [List.length_flatMap]
      omega
    infer_instance
    refine ⟨size, r, crewE size b G N T, rfl, sz1, sz2, hr, hc, fun M8 hK8 => ?_⟩
    have hC8 := hK8 _ _ hC'
    have hw := hr.w
    obtain ⟨cc, hcc⟩ : ∃ cc : Int, cc = G * T * min r.wide N := ⟨_, rfl⟩
    infer_instance
    intro c3 hc3
    have er : rngD 0 ((N : Int)).toNat = (List.range N).map fun t : Nat => D.int (0 + (t : Int)) := by unfold rngD; rw [hrl]
    rw [er]
    refine lc_all (fun t : Nat => D.int (0 + (t : Int))) (fun t => .tup [.str (nmE t), .int cc]) hc3 (by rw [List.length_range, sizeLine_eq]; omega) (fun _ => trivial) (fun t ht acc hz nx2 hnx2 => ?_) ?_
    · have ht2 := List.mem_range.mp ht
      infer_instance
      refine strI_num (by omega) (by omega) ?_
      rw [Int.zero_add]
      have := (R.num_len (i := (t : Nat)) (by omega) (by omega))
      have h19 : (numS (t : Nat)).length ≤ 19 := this
      refine DL.add_str (by rw [sizeLine_eq]; have h1 : ("h" : Str).length = 1 := (by decide +kernel); omega) ?_
      infer_instance
      refine min_int fun m m1 m2 m3 => ?_
      have em : min r.wide (N : Int) = m := by omega
      infer_instance
      rw [← em, ← hcc]
      exact acc_put hz hnx2
    have etd : ((List.range N).map fun t => D.tup [.str (nmE t), .int cc]) = ((List.range N).map fun t => (nmE t, cc)).map tiD := by rw [List.map_map]; rfl
    rw [etd]
    refine ⟨_, _, rfl, rfl, fun ps hps hpw => ?_⟩
    infer_instance
    refine ⟨_, _, rfl, rfl, ?_⟩
    infer_instance
    have c0 : 0 ≤ cc ∧ cc ≤ size := by
      have h1 := kept_even E hr (x := nmE 0) (nm_mem n1)
      have h2 := kept_bnd (r := r) sz1 hc (nmE 0)
      rw [h1, ← hcc] at h2
      exact h2
    refine ⟨size, r, crewE size b G N T, rfl, sz1, hc, hr, few, fun ys M9 hp hys hK9 => ?_⟩
    have hnm : ∀ y ∈ ys, y ∈ (crewE size b G N T).map (·.name) := fun y hy => hp.mem_iff.mp hy
    have eps : ps = ys.map fun x => (x, cc) := by
      have h1 : (ps.map (·.1)).Perm ((crewE size b G N T).map (·.name)) := by
        have := hps.map (·.1)
        rw [List.map_map] at this
        rw [names_E]
        exact this
      have h2 : PyProof.Rows.sortedS (ps.map (·.1)) = true := pw_sorted (by rw [List.pairwise_map]; exact hpw)
      have h3 : ps.map (·.1) = ys := sortedS_uniq (h1.trans hp.symm) h2 hys
      rw [← h3, List.map_map]
      conv => lhs; rw [← List.map_id ps]
      refine List.map_congr_left fun x hx => ?_
      obtain ⟨t, _, e⟩ := List.mem_map.mp (hps.mem_iff.mp hx)
      rw [← e]; rfl
    have hkept : ys.map (fun x => (D.tup [.str x, .int (keptN size r (crewE size b G N T) x)] : D)) = ps.map tiD := by
      rw [eps, List.map_map]
      refine List.map_congr_left fun x hx => ?_
      rw [kept_even E hr (hnm x hx), ← hcc]; rfl
    rw [← hkept]
    have hyl : ys.length ≤ 12 := by rw [hp.length_eq, List.length_map, len_E]; exact n12
    have shT := sh_tis (g := keptN size r (crewE size b G N T)) hyl (fun y hy => by
      obtain ⟨o, ho, rfl⟩ := List.mem_map.mp (hnm y hy)
      exact (crew_hostT hc ho).name) fun y _ => ⟨(kept_bnd (r := r) sz1 hc y).1, by have := (kept_bnd (r := r) sz1 hc y).2; omega⟩
    infer_instance
    refine ⟨_, _, rfl, py_tisT, shT, ?_⟩
    infer_instance
    refine ⟨_, _, rfl, py_tisT, shT, ?_⟩
    infer_instance
    refine ne_same ?_
    infer_instance
    refine ⟨size, r, crewE size b G N T, rfl, sz1, hc, hr, few, fun m M10 hmex hmle hK10 => ?_⟩
    obtain ⟨xm, hxm, hem⟩ := hmex
    rw [kept_even E hr hxm, ← hcc] at hem
    subst hem
    infer_instance
    refine min_int fun m m1 m2 m3 => ?_
    have em : min r.wide (N : Int) = m := by omega
    infer_instance
    rw [← em, ← hcc, decide_eq_true rfl]
    infer_instance
    intro c4 hc4
    refine lc_kept (fun x => (D.tup [.str x, .int (keptN size r (crewE size b G N T) x)])) (fun x => .int (G * T)) hc4 (by rw [sizeLine_eq]; omega) (fun M' hK' => rfl) (fun x hx M8 hK8 K K2 hk => ?_) fun M11 hK11 => ?_
    · infer_instance
      refine ⟨size, r, crewE size b G N T, x, rfl, sz1, hc, hr, few, hnm x hx, fun M9 hK9 => ?_⟩
      rw [lead_even E hr (hnm x hx)]
      exact hk M9 hK9
    infer_instance
    refine ⟨_, rfl, ⟨by omega, by omega⟩, by rw [sizeLine_eq, List.length_singleton]; omega, ?_⟩
    have er1 : (List.replicate ((N : Int)).toNat [D.int (G * T)]).flatten = (List.replicate N (G * T)).map D.int := by rw [hrl]; exact rep_flat _ _
    have er2 : (ys.map fun _ => D.int (G * T)) = (List.replicate N (G * T)).map D.int := by
      have hyn : ys.length = N := by rw [hp.length_eq, List.length_map, len_E]
      rw [← hyn]; exact map_flat _ _
    rw [er1, er2]
    refine eq_self (p := .list ((List.replicate N (G * T)).map PyData.int)) py_intL py_intL (shInts _) (eqv_intsL _) ?_
    exact h _ (hB'.trans ((((hK8.trans hK9).trans hK10).trans hK11).b))
  · rintro i env M' hi ⟨w8, w9, rfl, hB', hK', hC'⟩ nx hnx
    refine ⟨trivial, ?_⟩
    rw [show (0 : Int) + (i : Nat) = (i : Nat) by omega]
    have hi2 : i < N := by omega
    infer_instance
    intro c2 hc2
    have er : rngD 0 ((T : Int)).toNat = (List.range T).map fun t : Nat => D.int (0 + (t : Int)) := by unfold rngD; rw [show ((T : Int)).toNat = T by omega]
    rw [er]
    refine lc_all (fun t : Nat => D.int (0 + (t : Int))) (fun t => .int (mkE size b G N i t)) hc2 (by rw [List.length_range, sizeLine_eq]; omega) (fun _ => trivial) (fun t ht acc hz nx2 hnx2 => ?_) ?_
    · have ht2 := List.mem_range.mp ht
      have hsl := slot_lt E hi2 ht2
      infer_instance
      have e1 : (N : Int) * (0 + (t : Int)) + (i : Int) = ((N * t + i : Nat) : Int) := by push_cast; rw [Int.zero_add]
      rw [e1]
      infer_instance
      refine mod_int (by omega) ?_
      exact acc_put hz hnx2
    have e2 : ((List.range T).map fun t => D.int (mkE size b G N i t)) = ((List.range T).map fun t => mkE size b G N i t).map D.int := by rw [List.map_map]; rfl
    rw [e2]
    infer_instance
    refine ⟨_, _, _, rfl, rfl, DL.ints_map _, fun ns' hp hs' => ?_⟩
    have hnd : ((List.range T).map fun t => mkE size b G N i t).Nodup := by
      unfold List.Nodup
      rw [List.pairwise_map]
      refine List.Pairwise.imp_of_mem (R := fun a c : Nat => a < c) (fun {a c} ha hc h e => ?_) List.pairwise_lt_range
      have := (mk_inj E hi2 (List.mem_range.mp ha) hi2 (List.mem_range.mp hc) e).2
      omega
    have e3 : ns' = (hostE size b G N T i).marks := asc_uniq (nodup_asc hs' (hp.nodup_iff.mpr hnd)) ascF_pw fun k => by rw [hp.mem_iff]; show _ ↔ k ∈ ascF _; rw [ascF_mem]
    infer_instance
    refine ⟨c, _, rfl, hC', ?_⟩
    infer_instance
    refine strI_num (by omega) (by omega) ?_
    infer_instance
    have hnl : ∀ (x : Str), x.length ≤ 1 → (x.length + (numS (i : Nat)).length ≤ sizeLine) := fun x hx => by
      have := (R.num_len (i := (i : Nat)) (by omega) (by omega))
      have h19 : (numS (i : Nat)).length ≤ 19 := this
      rw [sizeLine_eq]; omega
    refine DL.add_str (hnl _ (by decide +kernel)) ?_
    infer_instance
    refine strI_num (by omega) (by omega) ?_
    infer_instance
    refine DL.add_str (hnl _ (by decide +kernel)) ?_
    infer_instance
    refine ⟨_, _, rfl, rfl, ?_⟩
    infer_instance
    refine ⟨_, _, rfl, hC', by rw [List.length_map, List.length_map, List.length_range, sizeLine_eq]; omega, hnx _ _ ⟨_, _, rfl, hB'.put hcM, ?_, ?_⟩⟩
    · obtain ⟨b1, b2, b3, b4, b5⟩ := hK'
      exact ⟨b1, b2, b3, by rw [mset_ne (Ne.symm hck)]; exact b4, b5⟩
    · rw [mset_same, List.range_succ, List.map_append, List.map_append, e3]; rfl
theorem kp_law (C : Addr) : Keeps N_law 1 (sd_law C) (db_law C) := by
  rintro ds M q ex hl ⟨ns, rfl, h63, hb, h⟩
  show db_law C _ [some (.lsf (ns.map D.int)), none] M
  unfold db_law
  ac_rfl
  refine len_seq (xs := ns.map D.int) rfl ?_
  have hml : (ns.map D.int).length = ns.length := List.length_map _
  ac_rfl
  refine min_int fun m m1 m2 _ => ?_
  ac_rfl
  refine max_int fun n n1 n2 n3 => ?_
  ac_rfl
  intro c hcn
  have hrl : ∀ n, (rngD 0 n).length = n := fun n => by unfold rngD; rw [List.length_map, List.length_range]
  refine lc_lst (fun i M' => ∃ acc : List D, M' c = some (.ls acc) ∧ (∀ x ∈ acc, x = .bl true) ∧ acc.length ≤ i) ?_ ?_ _ ⟨[], mset_same, fun x hx => by simp at hx, Nat.le_refl _⟩
  · rintro M' ⟨acc, hC, ha, _⟩
    refine ⟨trivial, _, hC, ?_⟩
    ac_rfl
    exact all_true ha (h _)
  · rintro i x M' hx ⟨acc, hC, ha, hlen⟩ nx hnx
    refine ⟨trivial, ?_⟩
    have hi := (List.getElem?_eq_some_iff.mp hx).1
    rw [hrl] at hi
    obtain rfl : x = .int (0 + (i : Nat)) := by
      unfold rngD at hx
      rw [List.getElem?_map, List.getElem?_range hi] at hx
      exact (Option.some.inj hx).symm
    have e0 : (0 : Int) + (i : Nat) = (i : Nat) := by omega
    ac_rfl
    refine ⟨ns, i, by rw [e0], by omega, h63, hb, fun k M5 hk hK5 hKg => ?_⟩
    ac_rfl
    refine ⟨k, rfl, hKg, fun M6 hB6 => ?_⟩
    have hck : c ≠ k := fun e => by rw [e] at hC; rw [hC] at hk; cases hk
    refine ⟨_, hB6 c _ (hK5 c _ hC) hck, by rw [sizeLine_eq]; omega, hnx _ ⟨_, mset_same, fun x hx => ?_, by rw [List.length_append, List.length_singleton]; omega⟩⟩
    rcases List.mem_append.mp hx with hx | hx
    · exact ha x hx
    · exact List.mem_singleton.mp hx
end L18
set_option maxRecDepth 100000
set_option maxHeartbeats 4000000
namespace L18
open PySem PySem.Spec PyProof.Rows L2 DL R
theorem fnIn_of {K : PySem.W.Frag} {x qual : Str} {params : Arguments} {body : List Stmt} {scope : Scope} {dvs : List V} {kws : List (Str × V)} {f : Addr} {fd : FuncData} (F : FunD K x qual params body scope dvs kws f fd) : PySem.W.fnIn K f = true := by
  obtain ⟨oc, od, dV, kV, doc, pm, an, cdv, ct, osl, rfl, lk, _⟩ := F.ex
  unfold PySem.W.fnIn
  rw [lk]
section
variable {w : World} {K : PySem.W.Frag} {h : Heap} {mg : Str → Option Value}
theorem tx (KX : K.In h) (G : h.Ns mainGlobals mg) (c : DLH.SaysR faA fnA exA K) : Tx K mg (He.ga K "Ring") := by
  have e : (He.tupB K "SPREADS" [.str "hosts", .str "racks"] && (He.tupB K "PENDINGS" [.str "plain", .str "with"] && (DLH.propB K "Ring" "hosts" && (DLH.propB K "Ring" "factor" && (DLH.propB K "Ring" "spread" && (DLH.propB K "Ring" "points" && (DLH.propB K "Ring" "names" && (DLH.cmB K "Ring" "read" && (DLH.isB K "Ring"))))))))) = true := c.more
  obtain ⟨e1, e⟩ := He.ba e
  obtain ⟨e2, e⟩ := He.ba e
  exact {
    abs := He.free_ok KX G (c.fact 70 (f := .free "abs") rfl)
    all := He.free_ok KX G (c.fact 71 (f := .free "all") rfl)
    any := He.free_ok KX G (c.fact 72 (f := .free "any") rfl)
    bool := He.free_ok KX G (c.fact 73 (f := .free "bool") rfl)
    dict := He.free_ok KX G (c.fact 74 (f := .free "dict") rfl)
    divmod := He.free_ok KX G (c.fact 75 (f := .free "divmod") rfl)
    enumerate := He.free_ok KX G (c.fact 76 (f := .free "enumerate") rfl)
    int := He.free_ok KX G (c.fact 77 (f := .free "int") rfl)
    isinstance := He.free_ok KX G (c.fact 78 (f := .free "isinstance") rfl)
    len := He.free_ok KX G (c.fact 79 (f := .free "len") rfl)
    list := He.free_ok KX G (c.fact 80 (f := .free "list") rfl)
    max := He.free_ok KX G (c.fact 81 (f := .free "max") rfl)
    min := He.free_ok KX G (c.fact 82 (f := .free "min") rfl)
    range := He.free_ok KX G (c.fact 83 (f := .free "range") rfl)
    repr := He.free_ok KX G (c.fact 84 (f := .free "repr") rfl)
    reversed := He.free_ok KX G (c.fact 85 (f := .free "reversed") rfl)
    set := He.free_ok KX G (c.fact 86 (f := .free "set") rfl)
    sorted := He.free_ok KX G (c.fact 87 (f := .free "sorted") rfl)
    str := He.free_ok KX G (c.fact 88 (f := .free "str") rfl)
    sum := He.free_ok KX G (c.fact 89 (f := .free "sum") rfl)
    tuple := He.free_ok KX G (c.fact 90 (f := .free "tuple") rfl)
    zip := He.free_ok KX G (c.fact 91 (f := .free "zip") rfl)
    c_DIGITS := He.str_ok KX G (c.fact 92 (f := .str "DIGITS" "0123456789") rfl)
    c_LETTERS := He.str_ok KX G (c.fact 93 (f := .str "LETTERS" "abcdefghijklmnopqrstuvwxyz") rfl)
    c_MOST_DIGITS := He.int_ok KX G (c.fact 94 (f := .int "MOST_DIGITS" 19) rfl)
    c_MOST_FACTOR := He.int_ok KX G (c.fact 95 (f := .int "MOST_FACTOR" 5) rfl)
    c_MOST_HOSTS := He.int_ok KX G (c.fact 96 (f := .int "MOST_HOSTS" 12) rfl)
    c_MOST_MARKS := He.int_ok KX G (c.fact 97 (f := .int "MOST_MARKS" 16) rfl)
    c_MOST_POINTS := He.int_ok KX G (c.fact 98 (f := .int "MOST_POINTS" 1000000000000000000) rfl)
    c_MOST_SIGNS := He.int_ok KX G (c.fact 99 (f := .int "MOST_SIGNS" 8) rfl)
    c_PENDINGS := ⟨_, He.glo_ok KX G (c.fact 60 (f := .glo "PENDINGS") rfl), He.tupB_ok e2⟩
    c_SPREADS := ⟨_, He.glo_ok KX G (c.fact 59 (f := .glo "SPREADS") rfl), He.tupB_ok e1⟩
    e_BadValue := ⟨_, He.glo_ok KX G (c.fact 61 (f := .glo "BadValue") rfl)⟩
    isC := DLH.isB_ok (He.cls_ok (c.fact 57 (f := .cls "Ring") rfl)) (by
      have e : (He.tupB K "SPREADS" [.str "hosts", .str "racks"] && (He.tupB K "PENDINGS" [.str "plain", .str "with"] && (DLH.propB K "Ring" "hosts" && (DLH.propB K "Ring" "factor" && (DLH.propB K "Ring" "spread" && (DLH.propB K "Ring" "points" && (DLH.propB K "Ring" "names" && (DLH.cmB K "Ring" "read" && (DLH.isB K "Ring"))))))))) = true := c.more
      obtain ⟨_, e⟩ := He.ba e
      obtain ⟨_, e⟩ := He.ba e
      obtain ⟨_, e⟩ := He.ba e
      obtain ⟨_, e⟩ := He.ba e
      obtain ⟨_, e⟩ := He.ba e
      obtain ⟨_, e⟩ := He.ba e
      obtain ⟨_, e⟩ := He.ba e
      obtain ⟨_, e⟩ := He.ba e
      exact e)
    g_Ring := He.glo_ok KX G (c.fact 56 (f := .glo "Ring") rfl)
    cRing := He.cls_ok (c.fact 57 (f := .cls "Ring") rfl)
    na := fun f hf => by
      simp only [List.mem_cons, List.not_mem_nil, or_false] at hf
      rcases hf with rfl | rfl | rfl | rfl | rfl | rfl | rfl | rfl
      · exact He.noat_ok (c.fact 62 (f := .noat "Ring" "_points") rfl)
      · exact He.noat_ok (c.fact 63 (f := .noat "Ring" "_factor") rfl)
      · exact He.noat_ok (c.fact 64 (f := .noat "Ring" "_spread") rfl)
      · exact He.noat_ok (c.fact 65 (f := .noat "Ring" "_write") rfl)
      · exact He.noat_ok (c.fact 66 (f := .noat "Ring" "_read_number") rfl)
      · exact He.noat_ok (c.fact 67 (f := .noat "Ring" "_pending") rfl)
      · exact He.noat_ok (c.fact 68 (f := .noat "Ring" "_hosts") rfl)
      · exact He.noat_ok (c.fact 69 (f := .noat "Ring" "__bool__") rfl)
  }
theorem facts {P : Program} (KX : K.In h) (G : h.Ns mainGlobals mg) (c : DLH.SaysR faA fnA exA K) : ∃ fd : FuncData, (∀ (s : Shared) (u : Value), BindsTo s fd ⟨[u], []⟩ [("_law_script", u)]) ∧ ∀ base : Heap, FnG P w K mg base 12 (He.ga K "law") fd P_law (spOf K 1 (sd_law (He.ga K "Ring"))) := by
  have T := tx KX G c
  have e : (He.tupB K "SPREADS" [.str "hosts", .str "racks"] && (He.tupB K "PENDINGS" [.str "plain", .str "with"] && (DLH.propB K "Ring" "hosts" && (DLH.propB K "Ring" "factor" && (DLH.propB K "Ring" "spread" && (DLH.propB K "Ring" "points" && (DLH.propB K "Ring" "names" && (DLH.cmB K "Ring" "read" && (DLH.isB K "Ring"))))))))) = true := c.more
  obtain ⟨e_SPREADS, e⟩ := He.ba e
  obtain ⟨e_PENDINGS, e⟩ := He.ba e
  obtain ⟨e_Ring_hosts, e⟩ := He.ba e
  obtain ⟨e_Ring_factor, e⟩ := He.ba e
  obtain ⟨e_Ring_spread, e⟩ := He.ba e
  obtain ⟨e_Ring_points, e⟩ := He.ba e
  obtain ⟨e_Ring_names, e⟩ := He.ba e
  obtain ⟨e_Ring_read, e⟩ := He.ba e
  have e_isC := e
  obtain ⟨fd_filled, D_filled⟩ := c.def_ 0 (d := dd_filled) rfl
  obtain ⟨fd_dip, D_dip⟩ := c.def_ 1 (d := dd_dip) rfl
  obtain ⟨fd_free, D_free⟩ := c.def_ 2 (d := dd_free) rfl
  obtain ⟨fd_borders, D_borders⟩ := c.def_ 3 (d := dd_borders) rfl
  obtain ⟨fd_far, D_far⟩ := c.def_ 4 (d := dd_far) rfl
  obtain ⟨fd_keep, D_keep⟩ := c.def_ 5 (d := dd_keep) rfl
  obtain ⟨fd_parted, D_parted⟩ := c.def_ 6 (d := dd_parted) rfl
  obtain ⟨fd_is_ascending, D_is_ascending⟩ := c.def_ 7 (d := dd_is_ascending) rfl
  obtain ⟨fd_is_whole, D_is_whole⟩ := c.def_ 8 (d := dd_is_whole) rfl
  obtain ⟨fd_is_name, D_is_name⟩ := c.def_ 9 (d := dd_is_name) rfl
  obtain ⟨fd_is_word_of, D_is_word_of⟩ := c.def_ 10 (d := dd_is_word_of) rfl
  obtain ⟨fd_all_marks, D_all_marks⟩ := c.def_ 11 (d := dd_all_marks) rfl
  obtain ⟨fd_arcs_up_to, D_arcs_up_to⟩ := c.def_ 12 (d := dd_arcs_up_to) rfl
  obtain ⟨fd_check_ring, D_check_ring⟩ := c.def_ 13 (d := dd_check_ring) rfl
  have hp_Ring_hosts := DLH.propB_ok e_Ring_hosts
  obtain ⟨fd_Ring_hosts, D_Ring_hosts⟩ := c.def_ 14 (d := dd_Ring_hosts) rfl
  have hp_Ring_factor := DLH.propB_ok e_Ring_factor
  obtain ⟨fd_Ring_factor, D_Ring_factor⟩ := c.def_ 15 (d := dd_Ring_factor) rfl
  have hp_Ring_spread := DLH.propB_ok e_Ring_spread
  obtain ⟨fd_Ring_spread, D_Ring_spread⟩ := c.def_ 16 (d := dd_Ring_spread) rfl
  obtain ⟨fd_ahead, D_ahead⟩ := c.def_ 17 (d := dd_ahead) rfl
  have hp_Ring_points := DLH.propB_ok e_Ring_points
  obtain ⟨fd_Ring_points, D_Ring_points⟩ := c.def_ 18 (d := dd_Ring_points) rfl
  obtain ⟨fd_Ring__way, D_Ring__way⟩ := c.def_ 19 (d := dd_Ring__way) rfl
  have hp_Ring_names := DLH.propB_ok e_Ring_names
  obtain ⟨fd_Ring_names, D_Ring_names⟩ := c.def_ 20 (d := dd_Ring_names) rfl
  obtain ⟨fd_sheet, D_sheet⟩ := c.def_ 21 (d := dd_sheet) rfl
  obtain ⟨fd_is_written_number, D_is_written_number⟩ := c.def_ 22 (d := dd_is_written_number) rfl
  obtain ⟨fd_of, D_of⟩ := c.def_ 23 (d := dd_of) rfl
  obtain ⟨fd_vast, D_vast⟩ := c.def_ 24 (d := dd_vast) rfl
  obtain ⟨fd_counted, D_counted⟩ := c.def_ 25 (d := dd_counted) rfl
  obtain ⟨fd_is_from_to, D_is_from_to⟩ := c.def_ 26 (d := dd_is_from_to) rfl
  obtain ⟨fd_is_free_name, D_is_free_name⟩ := c.def_ 27 (d := dd_is_free_name) rfl
  obtain ⟨fd_firsts, D_firsts⟩ := c.def_ 28 (d := dd_firsts) rfl
  obtain ⟨fd_written_number, D_written_number⟩ := c.def_ 29 (d := dd_written_number) rfl
  obtain ⟨fd_place, D_place⟩ := c.def_ 30 (d := dd_place) rfl
  obtain ⟨fd_title, D_title⟩ := c.def_ 31 (d := dd_title) rfl
  obtain ⟨fd_rule, D_rule⟩ := c.def_ 32 (d := dd_rule) rfl
  obtain ⟨fd_are_free_marks, D_are_free_marks⟩ := c.def_ 33 (d := dd_are_free_marks) rfl
  obtain ⟨fd_new_racks_first, D_new_racks_first⟩ := c.def_ 34 (d := dd_new_racks_first) rfl
  obtain ⟨fd_check_point, D_check_point⟩ := c.def_ 35 (d := dd_check_point) rfl
  obtain ⟨fd_Ring___contains__, D_Ring___contains__⟩ := c.def_ 36 (d := dd_Ring___contains__) rfl
  obtain ⟨fd_written_host, D_written_host⟩ := c.def_ 37 (d := dd_written_host) rfl
  obtain ⟨fd_width, D_width⟩ := c.def_ 38 (d := dd_width) rfl
  obtain ⟨fd_titles, D_titles⟩ := c.def_ 39 (d := dd_titles) rfl
  obtain ⟨fd_is_next_host, D_is_next_host⟩ := c.def_ 40 (d := dd_is_next_host) rfl
  obtain ⟨fd_keepers_in, D_keepers_in⟩ := c.def_ 41 (d := dd_keepers_in) rfl
  obtain ⟨fd_Ring_walk, D_Ring_walk⟩ := c.def_ 42 (d := dd_Ring_walk) rfl
  obtain ⟨fd_check_name, D_check_name⟩ := c.def_ 43 (d := dd_check_name) rfl
  obtain ⟨fd_yards, D_yards⟩ := c.def_ 44 (d := dd_yards) rfl
  obtain ⟨fd_check_hosts, D_check_hosts⟩ := c.def_ 45 (d := dd_check_hosts) rfl
  obtain ⟨fd_walks, D_walks⟩ := c.def_ 46 (d := dd_walks) rfl
  obtain ⟨fd_band, D_band⟩ := c.def_ 47 (d := dd_band) rfl
  obtain ⟨fd_Ring___init__, D_Ring___init__⟩ := c.def_ 48 (d := dd_Ring___init__) rfl
  obtain ⟨fd_keepers_at, D_keepers_at⟩ := c.def_ 49 (d := dd_keepers_at) rfl
  obtain ⟨fd_build, D_build⟩ := c.def_ 50 (d := dd_build) rfl
  obtain ⟨fd_cells, D_cells⟩ := c.def_ 51 (d := dd_cells) rfl
  obtain ⟨fd_plain, D_plain⟩ := c.def_ 52 (d := dd_plain) rfl
  obtain ⟨fd_shares, D_shares⟩ := c.def_ 53 (d := dd_shares) rfl
  obtain ⟨fd_leads, D_leads⟩ := c.def_ 54 (d := dd_leads) rfl
  obtain ⟨hr_Ring_read, hc_Ring_read⟩ := DLH.cmB_ok e_Ring_read
  obtain ⟨fd_Ring_read, D_Ring_read⟩ := c.def_ 55 (d := dd_Ring_read) rfl
  obtain ⟨fd_kept, D_kept⟩ := c.def_ 56 (d := dd_kept) rfl
  obtain ⟨fd_greatest, D_greatest⟩ := c.def_ 57 (d := dd_greatest) rfl
  obtain ⟨fd_made, D_made⟩ := c.def_ 58 (d := dd_made) rfl
  obtain ⟨fd_even_right, D_even_right⟩ := c.def_ 59 (d := dd_even_right) rfl
  obtain ⟨fd_right, D_right⟩ := c.def_ 60 (d := dd_right) rfl
  obtain ⟨fd_law, D_law⟩ := c.def_ 61 (d := dd_law) rfl
  refine ⟨fd_law, fun s v => (FunD.bindsA (ps := P_law) D_law fun _ _ _ _ _ _ us hl => match us, hl with | [_], _ => rfl) s [v] rfl, fun base => ?_⟩
  have O_filled := ok_filled (P := P) (w := w) (base := base) T  D_filled (kp_filled _)
  have B_filled : Binds K fd_filled P_filled [] := D_filled.bindsN fun _ _ _ _ _ _ us hl => match us, hl with | [_, _], _ => rfl
  have F_filled : Fok P w K mg base "_law_filled" 1 2 (sd_filled _) := ⟨_, _, _, He.glo_ok KX G (c.fact 0 (f := .glo "_law_filled") rfl), D_filled.kp, B_filled, O_filled⟩
  have O_dip := ok_dip (P := P) (w := w) (base := base) T  D_dip (kp_dip _)
  have B_dip : Binds K fd_dip P_dip [] := D_dip.bindsN fun _ _ _ _ _ _ us hl => match us, hl with | [_, _], _ => rfl
  have F_dip : Fok P w K mg base "_law_dip" 1 2 (sd_dip _) := ⟨_, _, _, He.glo_ok KX G (c.fact 1 (f := .glo "_law_dip") rfl), D_dip.kp, B_dip, O_dip⟩
  have O_free := ok_free (P := P) (w := w) (base := base) T  D_free (kp_free _)
  have B_free : Binds K fd_free P_free [] := D_free.bindsN fun _ _ _ _ _ _ us hl => match us, hl with | [_, _, _], _ => rfl
  have F_free : Fok P w K mg base "_law_free" 1 3 (sd_free _) := ⟨_, _, _, He.glo_ok KX G (c.fact 2 (f := .glo "_law_free") rfl), D_free.kp, B_free, O_free⟩
  have O_borders := ok_borders (P := P) (w := w) (base := base) T  D_borders (kp_borders _)
  have B_borders : Binds K fd_borders P_borders [] := D_borders.bindsN fun _ _ _ _ _ _ us hl => match us, hl with | [_], _ => rfl
  have F_borders : Fok P w K mg base "_law_borders" 1 1 (sd_borders _) := ⟨_, _, _, He.glo_ok KX G (c.fact 3 (f := .glo "_law_borders") rfl), D_borders.kp, B_borders, O_borders⟩
  have O_far := ok_far (P := P) (w := w) (base := base) T  D_far (kp_far _)
  have B_far : Binds K fd_far P_far [] := D_far.bindsN fun _ _ _ _ _ _ us hl => match us, hl with | [_, _], _ => rfl
  have F_far : Fok P w K mg base "_law_far" 1 2 (sd_far _) := ⟨_, _, _, He.glo_ok KX G (c.fact 4 (f := .glo "_law_far") rfl), D_far.kp, B_far, O_far⟩
  have O_keep := ok_keep (P := P) (w := w) (base := base) T  D_keep (kp_keep _)
  have B_keep : Binds K fd_keep P_keep [] := D_keep.bindsN fun _ _ _ _ _ _ us hl => match us, hl with | [_, _], _ => rfl
  have F_keep : Fok P w K mg base "_law_keep" 1 2 (sd_keep _) := ⟨_, _, _, He.glo_ok KX G (c.fact 5 (f := .glo "_law_keep") rfl), D_keep.kp, B_keep, O_keep⟩
  have O_parted := ok_parted (P := P) (w := w) (base := base) T  D_parted (kp_parted _)
  have B_parted : Binds K fd_parted P_parted [] := D_parted.bindsN fun _ _ _ _ _ _ us hl => match us, hl with | [_, _], _ => rfl
  have F_parted : Fok P w K mg base "_law_parted" 1 2 (sd_parted _) := ⟨_, _, _, He.glo_ok KX G (c.fact 6 (f := .glo "_law_parted") rfl), D_parted.kp, B_parted, O_parted⟩
  have O_is_ascending := ok_is_ascending (P := P) (w := w) (base := base) T  D_is_ascending (kp_is_ascending _)
  have B_is_ascending : Binds K fd_is_ascending P_is_ascending [] := D_is_ascending.bindsN fun _ _ _ _ _ _ us hl => match us, hl with | [_], _ => rfl
  have F_is_ascending : Fok P w K mg base "is_ascending" 1 1 (sd_is_ascending _) := ⟨_, _, _, He.glo_ok KX G (c.fact 7 (f := .glo "is_ascending") rfl), D_is_ascending.kp, B_is_ascending, O_is_ascending⟩
  have O_is_whole := ok_is_whole (P := P) (w := w) (base := base) T  D_is_whole (kp_is_whole _)
  have B_is_whole : Binds K fd_is_whole P_is_whole [] := D_is_whole.bindsN fun _ _ _ _ _ _ us hl => match us, hl with | [_], _ => rfl
  have F_is_whole : Fok P w K mg base "is_whole" 1 1 (sd_is_whole _) := ⟨_, _, _, He.glo_ok KX G (c.fact 8 (f := .glo "is_whole") rfl), D_is_whole.kp, B_is_whole, O_is_whole⟩
  have O_is_name := ok_is_name (P := P) (w := w) (base := base) T  D_is_name (kp_is_name _)
  have B_is_name : Binds K fd_is_name P_is_name [] := D_is_name.bindsN fun _ _ _ _ _ _ us hl => match us, hl with | [_], _ => rfl
  have F_is_name : Fok P w K mg base "is_name" 1 1 (sd_is_name _) := ⟨_, _, _, He.glo_ok KX G (c.fact 9 (f := .glo "is_name") rfl), D_is_name.kp, B_is_name, O_is_name⟩
  have O_is_word_of := ok_is_word_of (P := P) (w := w) (base := base) T  D_is_word_of (kp_is_word_of _)
  have B_is_word_of : Binds K fd_is_word_of P_is_word_of [] := D_is_word_of.bindsN fun _ _ _ _ _ _ us hl => match us, hl with | [_, _], _ => rfl
  have F_is_word_of : Fok P w K mg base "is_word_of" 1 2 (sd_is_word_of _) := ⟨_, _, _, He.glo_ok KX G (c.fact 10 (f := .glo "is_word_of") rfl), D_is_word_of.kp, B_is_word_of, O_is_word_of⟩
  have O_all_marks := ok_all_marks (P := P) (w := w) (base := base) T  D_all_marks (kp_all_marks _)
  have B_all_marks : Binds K fd_all_marks P_all_marks [] := D_all_marks.bindsN fun _ _ _ _ _ _ us hl => match us, hl with | [_], _ => rfl
  have F_all_marks : Fok P w K mg base "all_marks" 1 1 (sd_all_marks _) := ⟨_, _, _, He.glo_ok KX G (c.fact 11 (f := .glo "all_marks") rfl), D_all_marks.kp, B_all_marks, O_all_marks⟩
  have O_arcs_up_to := ok_arcs_up_to (P := P) (w := w) (base := base) T  D_arcs_up_to (kp_arcs_up_to _)
  have B_arcs_up_to : Binds K fd_arcs_up_to P_arcs_up_to [] := D_arcs_up_to.bindsN fun _ _ _ _ _ _ us hl => match us, hl with | [_, _], _ => rfl
  have F_arcs_up_to : Fok P w K mg base "arcs_up_to" 1 2 (sd_arcs_up_to _) := ⟨_, _, _, He.glo_ok KX G (c.fact 12 (f := .glo "arcs_up_to") rfl), D_arcs_up_to.kp, B_arcs_up_to, O_arcs_up_to⟩
  have O_check_ring := ok_check_ring (P := P) (w := w) (base := base) T  D_check_ring (kp_check_ring _)
  have B_check_ring : Binds K fd_check_ring P_check_ring [] := D_check_ring.bindsN fun _ _ _ _ _ _ us hl => match us, hl with | [_], _ => rfl
  have F_check_ring : Fok P w K mg base "check_ring" 1 1 (sd_check_ring _) := ⟨_, _, _, He.glo_ok KX G (c.fact 13 (f := .glo "check_ring") rfl), D_check_ring.kp, B_check_ring, O_check_ring⟩
  have O_Ring_hosts := ok_Ring_hosts (P := P) (w := w) (base := base) T  D_Ring_hosts (kp_Ring_hosts _)
  have B_Ring_hosts : Binds K fd_Ring_hosts P_Ring_hosts [] := D_Ring_hosts.bindsN fun _ _ _ _ _ _ us hl => match us, hl with | [_], _ => rfl
  have P_Ring_hosts : Pok P w K mg base (He.ga K "Ring") "hosts" 1 (sd_Ring_hosts _) := ⟨T.cRing, _, _, _, _, hp_Ring_hosts, B_Ring_hosts, O_Ring_hosts⟩
  have O_Ring_factor := ok_Ring_factor (P := P) (w := w) (base := base) T  D_Ring_factor (kp_Ring_factor _)
  have B_Ring_factor : Binds K fd_Ring_factor P_Ring_factor [] := D_Ring_factor.bindsN fun _ _ _ _ _ _ us hl => match us, hl with | [_], _ => rfl
  have P_Ring_factor : Pok P w K mg base (He.ga K "Ring") "factor" 1 (sd_Ring_factor _) := ⟨T.cRing, _, _, _, _, hp_Ring_factor, B_Ring_factor, O_Ring_factor⟩
  have O_Ring_spread := ok_Ring_spread (P := P) (w := w) (base := base) T  D_Ring_spread (kp_Ring_spread _)
  have B_Ring_spread : Binds K fd_Ring_spread P_Ring_spread [] := D_Ring_spread.bindsN fun _ _ _ _ _ _ us hl => match us, hl with | [_], _ => rfl
  have P_Ring_spread : Pok P w K mg base (He.ga K "Ring") "spread" 1 (sd_Ring_spread _) := ⟨T.cRing, _, _, _, _, hp_Ring_spread, B_Ring_spread, O_Ring_spread⟩
  have O_ahead := ok_ahead (P := P) (w := w) (base := base) T  D_ahead (kp_ahead _)
  have B_ahead : Binds K fd_ahead P_ahead [] := D_ahead.bindsN fun _ _ _ _ _ _ us hl => match us, hl with | [_, _], _ => rfl
  have F_ahead : Fok P w K mg base "ahead" 1 2 (sd_ahead _) := ⟨_, _, _, He.glo_ok KX G (c.fact 14 (f := .glo "ahead") rfl), D_ahead.kp, B_ahead, O_ahead⟩
  have O_Ring_points := ok_Ring_points (P := P) (w := w) (base := base) T  D_Ring_points (kp_Ring_points _)
  have B_Ring_points : Binds K fd_Ring_points P_Ring_points [] := D_Ring_points.bindsN fun _ _ _ _ _ _ us hl => match us, hl with | [_], _ => rfl
  have P_Ring_points : Pok P w K mg base (He.ga K "Ring") "points" 1 (sd_Ring_points _) := ⟨T.cRing, _, _, _, _, hp_Ring_points, B_Ring_points, O_Ring_points⟩
  have O_Ring__way := ok_Ring__way (P := P) (w := w) (base := base) T  D_Ring__way (kp_Ring__way _)
  have B_Ring__way : Binds K fd_Ring__way P_Ring__way [] := D_Ring__way.bindsN fun _ _ _ _ _ _ us hl => match us, hl with | [_, _, _], _ => rfl
  have F_Ring__way : Mok P w K mg base (He.ga K "Ring") "_way" 1 3 (sd_Ring__way _) := ⟨T.cRing, _, _, _, He.meth_ok (c.fact 15 (f := .meth "Ring" "_way") rfl), fnIn_of D_Ring__way, B_Ring__way, O_Ring__way⟩
  have O_Ring_names := ok_Ring_names (P := P) (w := w) (base := base) T  D_Ring_names (kp_Ring_names _)
  have B_Ring_names : Binds K fd_Ring_names P_Ring_names [] := D_Ring_names.bindsN fun _ _ _ _ _ _ us hl => match us, hl with | [_], _ => rfl
  have P_Ring_names : Pok P w K mg base (He.ga K "Ring") "names" 1 (sd_Ring_names _) := ⟨T.cRing, _, _, _, _, hp_Ring_names, B_Ring_names, O_Ring_names⟩
  have O_sheet := ok_sheet (P := P) (w := w) (base := base) T  D_sheet (kp_sheet _)
  have B_sheet : Binds K fd_sheet P_sheet [] := D_sheet.bindsN fun _ _ _ _ _ _ us hl => match us, hl with | [_], _ => rfl
  have F_sheet : Fok P w K mg base "_law_sheet" 1 1 (sd_sheet _) := ⟨_, _, _, He.glo_ok KX G (c.fact 16 (f := .glo "_law_sheet") rfl), D_sheet.kp, B_sheet, O_sheet⟩
  have O_is_written_number := ok_is_written_number (P := P) (w := w) (base := base) T  D_is_written_number (kp_is_written_number _)
  have B_is_written_number : Binds K fd_is_written_number P_is_written_number [] := D_is_written_number.bindsN fun _ _ _ _ _ _ us hl => match us, hl with | [_], _ => rfl
  have F_is_written_number : Fok P w K mg base "is_written_number" 1 1 (sd_is_written_number _) := ⟨_, _, _, He.glo_ok KX G (c.fact 17 (f := .glo "is_written_number") rfl), D_is_written_number.kp, B_is_written_number, O_is_written_number⟩
  have O_of := ok_of (P := P) (w := w) (base := base) T F_dip D_of (kp_of _)
  have B_of : Binds K fd_of P_of [] := D_of.bindsN fun _ _ _ _ _ _ us hl => match us, hl with | [_, _], _ => rfl
  have F_of : Fok P w K mg base "_law_of" 2 2 (sd_of _) := ⟨_, _, _, He.glo_ok KX G (c.fact 18 (f := .glo "_law_of") rfl), D_of.kp, B_of, O_of⟩
  have O_vast := ok_vast (P := P) (w := w) (base := base) T F_dip D_vast (kp_vast _)
  have B_vast : Binds K fd_vast P_vast [] := D_vast.bindsN fun _ _ _ _ _ _ us hl => match us, hl with | [_, _], _ => rfl
  have F_vast : Fok P w K mg base "_law_vast" 2 2 (sd_vast _) := ⟨_, _, _, He.glo_ok KX G (c.fact 19 (f := .glo "_law_vast") rfl), D_vast.kp, B_vast, O_vast⟩
  have O_counted := ok_counted (P := P) (w := w) (base := base) T F_borders F_far F_keep F_parted D_counted (kp_counted _)
  have B_counted : Binds K fd_counted P_counted [] := D_counted.bindsN fun _ _ _ _ _ _ us hl => match us, hl with | [_], _ => rfl
  have F_counted : Fok P w K mg base "_law_counted" 2 1 (sd_counted _) := ⟨_, _, _, He.glo_ok KX G (c.fact 20 (f := .glo "_law_counted") rfl), D_counted.kp, B_counted, O_counted⟩
  have O_is_from_to := ok_is_from_to (P := P) (w := w) (base := base) T F_is_whole D_is_from_to (kp_is_from_to _)
  have B_is_from_to : Binds K fd_is_from_to P_is_from_to [] := D_is_from_to.bindsN fun _ _ _ _ _ _ us hl => match us, hl with | [_, _, _], _ => rfl
  have F_is_from_to : Fok P w K mg base "is_from_to" 2 3 (sd_is_from_to _) := ⟨_, _, _, He.glo_ok KX G (c.fact 21 (f := .glo "is_from_to") rfl), D_is_from_to.kp, B_is_from_to, O_is_from_to⟩
  have O_is_free_name := ok_is_free_name (P := P) (w := w) (base := base) T F_is_name D_is_free_name (kp_is_free_name _)
  have B_is_free_name : Binds K fd_is_free_name P_is_free_name [] := D_is_free_name.bindsN fun _ _ _ _ _ _ us hl => match us, hl with | [_, _], _ => rfl
  have F_is_free_name : Fok P w K mg base "is_free_name" 2 2 (sd_is_free_name _) := ⟨_, _, _, He.glo_ok KX G (c.fact 22 (f := .glo "is_free_name") rfl), D_is_free_name.kp, B_is_free_name, O_is_free_name⟩
  have O_firsts := ok_firsts (P := P) (w := w) (base := base) T F_borders F_far F_parted D_firsts (kp_firsts _)
  have B_firsts : Binds K fd_firsts P_firsts [] := D_firsts.bindsN fun _ _ _ _ _ _ us hl => match us, hl with | [_], _ => rfl
  have F_firsts : Fok P w K mg base "_law_firsts" 2 1 (sd_firsts _) := ⟨_, _, _, He.glo_ok KX G (c.fact 23 (f := .glo "_law_firsts") rfl), D_firsts.kp, B_firsts, O_firsts⟩
  have O_written_number := ok_written_number (P := P) (w := w) (base := base) T F_is_written_number D_written_number (kp_written_number _)
  have B_written_number : Binds K fd_written_number P_written_number [] := D_written_number.bindsN fun _ _ _ _ _ _ us hl => match us, hl with | [_], _ => rfl
  have F_written_number : Fok P w K mg base "written_number" 2 1 (sd_written_number _) := ⟨_, _, _, He.glo_ok KX G (c.fact 24 (f := .glo "written_number") rfl), D_written_number.kp, B_written_number, O_written_number⟩
  have O_place := ok_place (P := P) (w := w) (base := base) T F_dip F_of F_vast D_place (kp_place _)
  have B_place : Binds K fd_place P_place [] := D_place.bindsN fun _ _ _ _ _ _ us hl => match us, hl with | [_, _, _], _ => rfl
  have F_place : Fok P w K mg base "_law_place" 3 3 (sd_place _) := ⟨_, _, _, He.glo_ok KX G (c.fact 25 (f := .glo "_law_place") rfl), D_place.kp, B_place, O_place⟩
  have O_title := ok_title (P := P) (w := w) (base := base) T F_dip F_of D_title (kp_title _)
  have B_title : Binds K fd_title P_title [] := D_title.bindsN fun _ _ _ _ _ _ us hl => match us, hl with | [_], _ => rfl
  have F_title : Fok P w K mg base "_law_title" 3 1 (sd_title _) := ⟨_, _, _, He.glo_ok KX G (c.fact 26 (f := .glo "_law_title") rfl), D_title.kp, B_title, O_title⟩
  have O_rule := ok_rule (P := P) (w := w) (base := base) T F_dip F_of D_rule (kp_rule _)
  have B_rule : Binds K fd_rule P_rule [] := D_rule.bindsN fun _ _ _ _ _ _ us hl => match us, hl with | [_], _ => rfl
  have F_rule : Fok P w K mg base "_law_rule" 3 1 (sd_rule _) := ⟨_, _, _, He.glo_ok KX G (c.fact 27 (f := .glo "_law_rule") rfl), D_rule.kp, B_rule, O_rule⟩
  have O_are_free_marks := ok_are_free_marks (P := P) (w := w) (base := base) T F_is_ascending F_is_from_to D_are_free_marks (kp_are_free_marks _)
  have B_are_free_marks : Binds K fd_are_free_marks P_are_free_marks [] := D_are_free_marks.bindsN fun _ _ _ _ _ _ us hl => match us, hl with | [_, _, _], _ => rfl
  have F_are_free_marks : Fok P w K mg base "are_free_marks" 3 3 (sd_are_free_marks _) := ⟨_, _, _, He.glo_ok KX G (c.fact 28 (f := .glo "are_free_marks") rfl), D_are_free_marks.kp, B_are_free_marks, O_are_free_marks⟩
  have O_new_racks_first := ok_new_racks_first (P := P) (w := w) (base := base) T P_Ring_hosts D_new_racks_first (kp_new_racks_first _)
  have B_new_racks_first : Binds K fd_new_racks_first P_new_racks_first [] := D_new_racks_first.bindsN fun _ _ _ _ _ _ us hl => match us, hl with | [_, _], _ => rfl
  have F_new_racks_first : Fok P w K mg base "new_racks_first" 3 2 (sd_new_racks_first _) := ⟨_, _, _, He.glo_ok KX G (c.fact 29 (f := .glo "new_racks_first") rfl), D_new_racks_first.kp, B_new_racks_first, O_new_racks_first⟩
  have O_check_point := ok_check_point (P := P) (w := w) (base := base) T P_Ring_points F_is_from_to D_check_point (kp_check_point _)
  have B_check_point : Binds K fd_check_point P_check_point [] := D_check_point.bindsN fun _ _ _ _ _ _ us hl => match us, hl with | [_, _], _ => rfl
  have F_check_point : Fok P w K mg base "check_point" 3 2 (sd_check_point _) := ⟨_, _, _, He.glo_ok KX G (c.fact 30 (f := .glo "check_point") rfl), D_check_point.kp, B_check_point, O_check_point⟩
  have O_Ring___contains__ := ok_Ring___contains__ (P := P) (w := w) (base := base) T P_Ring_names F_is_word_of D_Ring___contains__ (kp_Ring___contains__ _)
  have B_Ring___contains__ : Binds K fd_Ring___contains__ P_Ring___contains__ [] := D_Ring___contains__.bindsN fun _ _ _ _ _ _ us hl => match us, hl with | [_, _], _ => rfl
  have F_Ring___contains__ : Mok P w K mg base (He.ga K "Ring") "__contains__" 3 2 (sd_Ring___contains__ _) := ⟨T.cRing, _, _, _, He.meth_ok (c.fact 31 (f := .meth "Ring" "__contains__") rfl), fnIn_of D_Ring___contains__, B_Ring___contains__, O_Ring___contains__⟩
  have O_written_host := ok_written_host (P := P) (w := w) (base := base) T F_written_number D_written_host (kp_written_host _)
  have B_written_host : Binds K fd_written_host P_written_host [] := D_written_host.bindsN fun _ _ _ _ _ _ us hl => match us, hl with | [_], _ => rfl
  have F_written_host : Fok P w K mg base "written_host" 3 1 (sd_written_host _) := ⟨_, _, _, He.glo_ok KX G (c.fact 32 (f := .glo "written_host") rfl), D_written_host.kp, B_written_host, O_written_host⟩
  have O_width := ok_width (P := P) (w := w) (base := base) T F_dip F_vast D_width (kp_width _)
  have B_width : Binds K fd_width P_width [] := D_width.bindsN fun _ _ _ _ _ _ us hl => match us, hl with | [_], _ => rfl
  have F_width : Fok P w K mg base "_law_width" 3 1 (sd_width _) := ⟨_, _, _, He.glo_ok KX G (c.fact 33 (f := .glo "_law_width") rfl), D_width.kp, B_width, O_width⟩
  have O_titles := ok_titles (P := P) (w := w) (base := base) T F_dip F_title D_titles (kp_titles _)
  have B_titles : Binds K fd_titles P_titles [] := D_titles.bindsN fun _ _ _ _ _ _ us hl => match us, hl with | [_, _], _ => rfl
  have F_titles : Fok P w K mg base "_law_titles" 4 2 (sd_titles _) := ⟨_, _, _, He.glo_ok KX G (c.fact 34 (f := .glo "_law_titles") rfl), D_titles.kp, B_titles, O_titles⟩
  have O_is_next_host := ok_is_next_host (P := P) (w := w) (base := base) T F_are_free_marks F_is_free_name F_is_name D_is_next_host (kp_is_next_host _)
  have B_is_next_host : Binds K fd_is_next_host P_is_next_host [] := D_is_next_host.bindsN fun _ _ _ _ _ _ us hl => match us, hl with | [_, _, _], _ => rfl
  have F_is_next_host : Fok P w K mg base "is_next_host" 4 3 (sd_is_next_host _) := ⟨_, _, _, He.glo_ok KX G (c.fact 35 (f := .glo "is_next_host") rfl), D_is_next_host.kp, B_is_next_host, O_is_next_host⟩
  have O_keepers_in := ok_keepers_in (P := P) (w := w) (base := base) T P_Ring_factor P_Ring_spread F_new_racks_first D_keepers_in (kp_keepers_in _)
  have B_keepers_in : Binds K fd_keepers_in P_keepers_in [] := D_keepers_in.bindsN fun _ _ _ _ _ _ us hl => match us, hl with | [_, _], _ => rfl
  have F_keepers_in : Fok P w K mg base "keepers_in" 4 2 (sd_keepers_in _) := ⟨_, _, _, He.glo_ok KX G (c.fact 36 (f := .glo "keepers_in") rfl), D_keepers_in.kp, B_keepers_in, O_keepers_in⟩
  have O_Ring_walk := ok_Ring_walk (P := P) (w := w) (base := base) T F_Ring__way F_check_point D_Ring_walk (kp_Ring_walk _)
  have B_Ring_walk : Binds K fd_Ring_walk P_Ring_walk [] := D_Ring_walk.bindsN fun _ _ _ _ _ _ us hl => match us, hl with | [_, _], _ => rfl
  have F_Ring_walk : Mok P w K mg base (He.ga K "Ring") "walk" 4 2 (sd_Ring_walk _) := ⟨T.cRing, _, _, _, He.meth_ok (c.fact 37 (f := .meth "Ring" "walk") rfl), fnIn_of D_Ring_walk, B_Ring_walk, O_Ring_walk⟩
  have O_check_name := ok_check_name (P := P) (w := w) (base := base) T F_Ring___contains__ D_check_name (kp_check_name _)
  have B_check_name : Binds K fd_check_name P_check_name [] := D_check_name.bindsN fun _ _ _ _ _ _ us hl => match us, hl with | [_, _], _ => rfl
  have F_check_name : Fok P w K mg base "check_name" 4 2 (sd_check_name _) := ⟨_, _, _, He.glo_ok KX G (c.fact 38 (f := .glo "check_name") rfl), D_check_name.kp, B_check_name, O_check_name⟩
  have O_yards := ok_yards (P := P) (w := w) (base := base) T F_dip F_of F_titles D_yards (kp_yards _)
  have B_yards : Binds K fd_yards P_yards [] := D_yards.bindsN fun _ _ _ _ _ _ us hl => match us, hl with | [_, _], _ => rfl
  have F_yards : Fok P w K mg base "_law_yards" 5 2 (sd_yards _) := ⟨_, _, _, He.glo_ok KX G (c.fact 39 (f := .glo "_law_yards") rfl), D_yards.kp, B_yards, O_yards⟩
  have O_check_hosts := ok_check_hosts (P := P) (w := w) (base := base) T F_is_next_host D_check_hosts (kp_check_hosts _)
  have B_check_hosts : Binds K fd_check_hosts P_check_hosts [] := D_check_hosts.bindsN fun _ _ _ _ _ _ us hl => match us, hl with | [_, _], _ => rfl
  have F_check_hosts : Fok P w K mg base "check_hosts" 5 2 (sd_check_hosts _) := ⟨_, _, _, He.glo_ok KX G (c.fact 40 (f := .glo "check_hosts") rfl), D_check_hosts.kp, B_check_hosts, O_check_hosts⟩
  have O_walks := ok_walks (P := P) (w := w) (base := base) T P_Ring_hosts F_Ring_walk F_ahead D_walks (kp_walks _)
  have B_walks : Binds K fd_walks P_walks [] := D_walks.bindsN fun _ _ _ _ _ _ us hl => match us, hl with | [_], _ => rfl
  have F_walks : Fok P w K mg base "walks" 5 1 (sd_walks _) := ⟨_, _, _, He.glo_ok KX G (c.fact 41 (f := .glo "walks") rfl), D_walks.kp, B_walks, O_walks⟩
  have O_band := ok_band (P := P) (w := w) (base := base) T F_dip F_free F_place F_titles F_yards D_band (kp_band _)
  have B_band : Binds K fd_band P_band [] := D_band.bindsN fun _ _ _ _ _ _ us hl => match us, hl with | [_, _, _, _], _ => rfl
  have F_band : Fok P w K mg base "_law_band" 6 4 (sd_band _) := ⟨_, _, _, He.glo_ok KX G (c.fact 42 (f := .glo "_law_band") rfl), D_band.kp, B_band, O_band⟩
  have O_Ring___init__ := ok_Ring___init__ (P := P) (w := w) (base := base) T F_check_hosts F_is_from_to F_is_word_of D_Ring___init__ (kp_Ring___init__ _)
  have B_Ring___init__ : Binds K fd_Ring___init__ P_Ring___init__ [] := D_Ring___init__.bindsN fun _ _ _ _ _ _ us hl => match us, hl with | [_, _, _, _, _, _, _, _], _ => rfl
  have F_Ring : Kok P w K mg base "Ring" (He.ga K "Ring") 6 8 (sd_Ring___init__ _) := ⟨_, _, _, He.glo_ok KX G (c.fact 56 (f := .glo "Ring") rfl), He.mkr_ok (c.fact 58 (f := .mkr "Ring") rfl), B_Ring___init__, O_Ring___init__⟩
  have FP_Ring : KokP P w K mg base "Ring" (He.ga K "Ring") 6 8 ["hosts", "pending", "read", "write", "spread", "factor", "points"] [6, 5, 4, 3, 2, 1, 0] (sd_Ring___init__ _) := ⟨_, _, _, He.glo_ok KX G (c.fact 56 (f := .glo "Ring") rfl), He.mkr_ok (c.fact 58 (f := .mkr "Ring") rfl), fun s us ws l1 l2 => by
    obtain ⟨oc, od, dV, kV, doc, pm, an, cdv, ct, osl, rfl, lk, hcd, hD, hK⟩ := D_Ring___init__.ex
    rcases hD with ⟨_, rfl⟩ | ⟨e, _⟩
    · exact .of_eq (match us, ws, l1, l2 with | [_], [_, _, _, _, _, _, _], _, _ => rfl)
    · exact absurd rfl e, O_Ring___init__⟩
  have O_keepers_at := ok_keepers_at (P := P) (w := w) (base := base) T F_keepers_in F_walks D_keepers_at (kp_keepers_at _)
  have B_keepers_at : Binds K fd_keepers_at P_keepers_at [] := D_keepers_at.bindsN fun _ _ _ _ _ _ us hl => match us, hl with | [_, _], _ => rfl
  have F_keepers_at : Fok P w K mg base "keepers_at" 6 2 (sd_keepers_at _) := ⟨_, _, _, He.glo_ok KX G (c.fact 44 (f := .glo "keepers_at") rfl), D_keepers_at.kp, B_keepers_at, O_keepers_at⟩
  have O_build := ok_build (P := P) (w := w) (base := base) T F_band F_rule D_build (kp_build _)
  have B_build : Binds K fd_build P_build [] := D_build.bindsN fun _ _ _ _ _ _ us hl => match us, hl with | [_, _, _, _], _ => rfl
  have F_build : Fok P w K mg base "_law_build" 7 4 (sd_build _) := ⟨_, _, _, He.glo_ok KX G (c.fact 45 (f := .glo "_law_build") rfl), D_build.kp, B_build, O_build⟩
  have O_cells := ok_cells (P := P) (w := w) (base := base) T P_Ring_hosts P_Ring_points F_all_marks F_arcs_up_to F_check_ring F_keepers_at D_cells (kp_cells _)
  have B_cells : Binds K fd_cells P_cells [] := D_cells.bindsN fun _ _ _ _ _ _ us hl => match us, hl with | [_], _ => rfl
  have F_cells : Fok P w K mg base "cells" 7 1 (sd_cells _) := ⟨_, _, _, He.glo_ok KX G (c.fact 46 (f := .glo "cells") rfl), D_cells.kp, B_cells, O_cells⟩
  have O_plain := ok_plain (P := P) (w := w) (base := base) T F_Ring D_plain (kp_plain _)
  have B_plain : Binds K fd_plain P_plain [] := D_plain.bindsN fun _ _ _ _ _ _ us hl => match us, hl with | [_], _ => rfl
  have F_plain : Fok P w K mg base "_law_plain" 8 1 (sd_plain _) := ⟨_, _, _, He.glo_ok KX G (c.fact 47 (f := .glo "_law_plain") rfl), D_plain.kp, B_plain, O_plain⟩
  have O_shares := ok_shares (P := P) (w := w) (base := base) T P_Ring_names F_cells D_shares (kp_shares _)
  have B_shares : Binds K fd_shares P_shares [] := D_shares.bindsN fun _ _ _ _ _ _ us hl => match us, hl with | [_], _ => rfl
  have F_shares : Fok P w K mg base "shares" 8 1 (sd_shares _) := ⟨_, _, _, He.glo_ok KX G (c.fact 48 (f := .glo "shares") rfl), D_shares.kp, B_shares, O_shares⟩
  have O_leads := ok_leads (P := P) (w := w) (base := base) T F_cells F_check_name F_check_ring D_leads (kp_leads _)
  have B_leads : Binds K fd_leads P_leads [] := D_leads.bindsN fun _ _ _ _ _ _ us hl => match us, hl with | [_, _], _ => rfl
  have F_leads : Fok P w K mg base "leads" 8 2 (sd_leads _) := ⟨_, _, _, He.glo_ok KX G (c.fact 49 (f := .glo "leads") rfl), D_leads.kp, B_leads, O_leads⟩
  have O_Ring_read := ok_Ring_read (P := P) (w := w) (base := base) T F_Ring F_written_host F_written_number D_Ring_read (kp_Ring_read _)
  have B_Ring_read : Binds K fd_Ring_read P_Ring_read [] := D_Ring_read.bindsN fun _ _ _ _ _ _ us hl => match us, hl with | [_, _], _ => rfl
  have C_Ring_read : Cok P w K mg base "Ring" (He.ga K "Ring") "read" 8 2 (sd_Ring_read _) := ⟨He.glo_ok KX G (c.fact 56 (f := .glo "Ring") rfl), _, _, _, _, _, hr_Ring_read, hc_Ring_read, B_Ring_read, O_Ring_read⟩
  have O_kept := ok_kept (P := P) (w := w) (base := base) T F_cells F_check_name F_check_ring D_kept (kp_kept _)
  have B_kept : Binds K fd_kept P_kept [] := D_kept.bindsN fun _ _ _ _ _ _ us hl => match us, hl with | [_, _], _ => rfl
  have F_kept : Fok P w K mg base "kept" 8 2 (sd_kept _) := ⟨_, _, _, He.glo_ok KX G (c.fact 50 (f := .glo "kept") rfl), D_kept.kp, B_kept, O_kept⟩
  have O_greatest := ok_greatest (P := P) (w := w) (base := base) T F_shares D_greatest (kp_greatest _)
  have B_greatest : Binds K fd_greatest P_greatest [] := D_greatest.bindsN fun _ _ _ _ _ _ us hl => match us, hl with | [_], _ => rfl
  have F_greatest : Fok P w K mg base "greatest" 9 1 (sd_greatest _) := ⟨_, _, _, He.glo_ok KX G (c.fact 51 (f := .glo "greatest") rfl), D_greatest.kp, B_greatest, O_greatest⟩
  have O_made := ok_made (P := P) (w := w) (base := base) T F_Ring FP_Ring C_Ring_read F_dip F_sheet D_made (kp_made _)
  have B_made : Binds K fd_made P_made [] := D_made.bindsN fun _ _ _ _ _ _ us hl => match us, hl with | [_, _], _ => rfl
  have F_made : Fok P w K mg base "_law_made" 9 2 (sd_made _) := ⟨_, _, _, He.glo_ok KX G (c.fact 52 (f := .glo "_law_made") rfl), D_made.kp, B_made, O_made⟩
  have O_even_right := ok_even_right (P := P) (w := w) (base := base) T F_dip F_greatest F_leads F_of F_plain F_rule F_shares F_vast D_even_right (kp_even_right _)
  have B_even_right : Binds K fd_even_right P_even_right [] := D_even_right.bindsN fun _ _ _ _ _ _ us hl => match us, hl with | [_], _ => rfl
  have F_even_right : Fgd P w K mg base "_law_even_right" 10 1 (sd_even_right _) := ⟨_, _, _, He.glo_ok KX G (c.fact 53 (f := .glo "_law_even_right") rfl), D_even_right.kp, B_even_right, O_even_right⟩
  have O_right := ok_right (P := P) (w := w) (base := base) T F_build F_counted F_even_right F_firsts F_greatest F_kept F_leads F_made F_of F_shares F_width D_right (kp_right _)
  have B_right : Binds K fd_right P_right [] := D_right.bindsN fun _ _ _ _ _ _ us hl => match us, hl with | [_], _ => rfl
  have F_right : Fgd P w K mg base "_law_right" 11 1 (sd_right _) := ⟨_, _, _, He.glo_ok KX G (c.fact 54 (f := .glo "_law_right") rfl), D_right.kp, B_right, O_right⟩
  exact ok_law T F_filled F_right D_law (kp_law _)
end
end L18
set_option maxRecDepth 100000
set_option maxHeartbeats 4000000
namespace DL
open PySem PySem.Spec PyProof.Rows L2
section
variable {P : Program} {w : World} {K : PySem.W.Frag} {mg mb : Str → Option Value} {k : Nat} {l c : Addr} {fd : FuncData} {x : Str} {sp : Sp} {s : Shared} {us : List Value} {ns : List Int}
/-- nothing but the cell c is told of, and that is no object of the text -/
structure Lone (P : Program) (w : World) (K : PySem.W.Frag) (s : Shared) (c : Addr) (T : Hp) : Prop where
  only : Only T
  hok : HOk P w T s.heap
  one : ∀ b, T b ≠ none → b = c
  out : T c ≠ none → K.lookup c = none
theorem Lone.env {T : Hp} (L : Lone P w K s c T) (KX : K.In s.heap) (g1 : s.heap.Ns mainGlobals mg) (g2 : s.heap.Ns builtinsNs mb) (g3 : ∀ x : Str, x ≠ "__name__" → mb x = bootBuiltins x) (g4 : s.heap.NoLimit) (g5 : s.gens = #[])
    (hc : s.heap.get? c = some { cls := .type "list", data := .seq us.toArray }) : Env0 P w K mg (hidT s.heap T) callerA [] s T := by
  have free : ∀ {b : Addr} {o : Obj} {es : Array DictEntry} {n : Nat}, s.heap.get? b = some o → o.data = .dict es n → T b = none := by
    intro b o es n e d
    by_cases q : T b = none
    · exact q
    · have eb := L.one b q
      rw [eb, hc] at e
      cases e
      cases d
  have space : ∀ {b : Addr} {m : Str → Option Value}, s.heap.Ns b m → (hidT s.heap T).Ns b m := by
    rintro b m ⟨o, es, n, e, d, r⟩
    exact ⟨o, es, n, hidT_get e (free e d), d, r⟩
  have inK : K.In (hidT s.heap T) := by
    intro b o e
    refine hidT_get (KX b o e) ?_
    by_cases q : T b = none
    · exact q
    · have eb := L.one b q
      rw [eb] at q e
      rw [L.out q] at e
      cases e
  obtain ⟨mc, n1, n2⟩ := g4
  exact ⟨rfl, ⟨inK, space g1, ⟨mb, space g2, g3⟩, ⟨mc, space n1, n2⟩⟩, fun b o e => of_hidT e, Nat.le_of_eq (hidT_size _ _), trivial, fun b hb => (nomatch (show b ∈ ([] : List Addr) from hb)), L.hok, .of_eq g5⟩
theorem Lone.run {T : Hp} (L : Lone P w K s c T) (e0 : ∀ (base : Heap), FnG P w K mg base k l fd [x] sp) (ev : Env0 P w K mg (hidT s.heap T) callerA [] s T) (hr : Room k callerA) (bi : BindsTo s fd ⟨[.ref c], []⟩ [(x, .ref c)])
    (pr : sp [.ref c] T (fun v _ => v = .bl true) fun _ _ _ => False) : codeAny (model P w) callerA (.call (.ref l) ⟨[.ref c], []⟩) (fun r s' => r = .ok (.ret (.bool true)) ∧ OldK s.heap s'.heap ∧ s'.os = s.os ∧ AllBare s'.gens) s := by
  have one : Vals [V.ref c] [Value.ref c] := .cons rfl .nil
  refine codeAny_mono ((e0 _).run callerA [] s T ⟨[.ref c], []⟩ [.ref c] [.ref c] _ _ hr rfl ev bi one pr) ?_
  intro r s' z
  match r, z with
  | .error e, z =>
    obtain ⟨_, _, _, _, _, _, _, _, _, _, _, _, f⟩ := z
    exact f.elim
  | .ok .next, z => exact z.elim
  | .ok .brk, z => exact z.elim
  | .ok .cont, z => exact z.elim
  | .ok (.ret u), z =>
    obtain ⟨v, T', z1, z2, z3, z4, z5, z6⟩ := z
    have e6 : v = .bl true := z6
    subst e6
    have e5 : u = Value.bool true := z5
    subst e5
    refine ⟨rfl, OldK.of_keep ?_, z1, z2⟩
    intro b o e
    rcases L.only b with q | ⟨ob, xs, q⟩
    · exact z3.keep b o e q (fun m => nomatch (show b ∈ ([] : List Addr) from m)) (by simp)
    · obtain ⟨a1, _⟩ := L.hok b _ q
      obtain ⟨a2, _⟩ := z4 b _ (z3.frzs b ob _ q)
      rw [e] at a1
      cases a1
      exact a2
theorem end_G (KX : K.In s.heap) (g1 : s.heap.Ns mainGlobals mg) (g2 : s.heap.Ns builtinsNs mb) (g3 : ∀ x : Str, x ≠ "__name__" → mb x = bootBuiltins x) (g4 : s.heap.NoLimit) (g5 : s.gens = #[])
    (hc : s.heap.get? c = some { cls := .type "list", data := .seq us.toArray }) (hi : IntsAre us ns) (hz : ns.length ≤ sizeLine) (hr : Room k callerA) (F : ∀ base : Heap, FnG P w K mg base k l fd [x] sp) (bi : ∀ (s : Shared) (u : Value), BindsTo s fd ⟨[u], []⟩ [(x, u)])
    (pr : ∀ T : Hp, SqL K T c (ns.map V.int) → sp [.ref c] T (fun v _ => v = .bl true) fun _ _ _ => False) :
    codeAny (model P w) callerA (.call (.ref l) ⟨[.ref c], []⟩) (fun r s' => r = .ok (.ret (.bool true)) ∧ OldK s.heap s'.heap ∧ s'.os = s.os ∧ AllBare s'.gens) s := by
  have rv := vals_ints hi
  have fin : ∀ T : Hp, Lone P w K s c T → SqL K T c (ns.map V.int) → _ := fun T L q => L.run F (L.env KX g1 g2 g3 g4 g5 hc) hr (bi s (.ref c)) (pr T q)
  cases hk : K.lookup c with
  | some o =>
    have e := KX c o hk
    rw [hc] at e
    cases e
    refine fin (fun _ => none) ⟨fun _ => .inl rfl, fun b u z => (nomatch z), fun b z => absurd rfl z, fun z => absurd rfl z⟩ (.inr ⟨_, us.toArray, _, hk, rfl, rfl, rfl, ?_, by simpa using rv⟩)
    rw [List.size_toArray, hi.length]; exact hz
  | none =>
    let T : Hp := fun b => if b = c then some (.frz { cls := .type "list", data := .seq us.toArray } (.lst (ns.map V.int))) else none
    have Tc : T c = some (.frz { cls := .type "list", data := .seq us.toArray } (.lst (ns.map V.int))) := if_pos rfl
    have Tn : ∀ b, b ≠ c → T b = none := fun b hb => if_neg hb
    refine fin T ⟨fun b => ?_, fun b u z => ?_, fun b z => ?_, fun _ => hk⟩ (.inl (.inr ⟨_, Tc⟩))
    · by_cases hb : b = c
      · rw [hb]; exact .inr ⟨_, _, Tc⟩
      · exact .inl (Tn b hb)
    · by_cases hb : b = c
      · rw [hb, Tc] at z
        cases z
        rw [hb]
        exact ⟨hc, by rw [List.length_map]; exact hz, us, _, rv, hc⟩
      · rw [Tn b hb] at z; cases z
    · by_cases hb : b = c
      · exact hb
      · exact absurd (Tn b hb) z
end
end DL
set_option maxRecDepth 100000
set_option maxHeartbeats 4000000
namespace L18
open PySem PySem.Spec PyProof.Rows L2 DL R
theorem law_promise {K : PySem.W.Frag} {C : Addr} {T : Hp} {a : Addr} {ns : List Int} (hS : SqL K T a (ns.map V.int)) (h63 : ns.length ≤ 63) (hb : ∀ n ∈ ns, Builtin.Int.intBits n ≤ 1048576) : spOf K 1 (sd_law C) [.ref a] T (fun v _ => v = .bl true) fun _ _ _ => False :=
  ⟨[.lsf (ns.map D.int)], fun _ => none, fun d _ => d = .bl true, fun _ _ _ _ => False, T, rfl, .cons (.lsf hS (dn_ints ns)) .nil, ⟨Ext.refl T, fun c x e => nomatch e⟩, ⟨ns, rfl, h63, hb, fun _ => rfl⟩,
    fun v d _ _ _ _ _ r e => by subst e; exact r.inv_bl, fun _ _ _ _ _ _ _ _ _ _ z => z⟩
end L18
open PySem PySem.W PySem.Calls PyProof.Rows
theorem PySem.Challenge.cw_ringshares_k18_whole_shares_of_great_rin_holds : PySem.Challenge.rw_ringshares_k18_whole_shares_of_great_rin.Holds := by
  w_on; o_law
  refine HandSHeadRun.head_any (r := OpenLaw.row PySem.Challenge.rw_ringshares_k18_whole_shares_of_great_rin) (q := view (OpenLaw.row PySem.Challenge.rw_ringshares_k18_whole_shares_of_great_rin).prog [79]) (H := L18.hkA) (ob := L18.obA) (M := 9000) (loose := L18.nmA) (d := HandSHeadRun.topDef (OpenLaw.row PySem.Challenge.rw_ringshares_k18_whole_shares_of_great_rin).prog 79) (kwd := []) L18.obA_eq
    (by kernel_rfl) (fun s => by kernel_rfl) L18.runA (by kernel_rfl) (by kernel_rfl) (by kernel_rfl) (by rfl) (by first | assumption | decide +kernel) (by decide +kernel) ⟨rfl, rfl, rfl, rfl, rfl, by decide +kernel⟩ ?hw ?hc
  case hw => w_witness2
  case hc =>
    refine Att.attach_callB (l := PySem.Challenge.rw_ringshares_k18_whole_shares_of_great_rin) (n := 63) rfl (by kernel_rfl) fun w s₀ s₁ mg mb fa o pm cd doc a vs ns G Y ho hd hcd hmg hobj hints hlen hbits hg => ?_
    obtain ⟨K, KX, c⟩ := Y
    obtain ⟨fd, hbnd, F⟩ := L18.facts (P := (PySem.Challenge.rw_ringshares_k18_whole_shares_of_great_rin).prog) KX G.T.g c
    have e1 : (HandSHeadRun.topDef (OpenLaw.row PySem.Challenge.rw_ringshares_k18_whole_shares_of_great_rin).prog 79).name = ("law" : PySem.Str) := by kernel_rfl
    rw [e1] at hmg
    have e2 := hmg.symm.trans (He.glo_ok KX G.T.g (c.fact 55 (f := .glo "law") rfl))
    cases e2
    exact DL.end_G KX G.T.g G.T.b G.T.builtins G.T.nolimit hg hobj hints (Nat.le_trans hlen (by decide)) ⟨rfl, by decide, by decide⟩ F hbnd fun T hS => L18.law_promise hS hlen hbits
