import PyProof.Rows.All
import Wide.All
import OpenK.AllK
import Wide.FinOn
import PySem.Challenge.RW_ringshares_k47_ring_wishes_tried
import PyProof.EqAt
import PyProof.EqKinds
import PyProof.TupleCall
import PyProof.ReprReads
import HandS.Base
import HandS.Call
import HandS.List
import HandS.Comp
import HandS.Ends
import HandS.Exc
import HandS.Words
import HandS.TupAny
import HandS.Style
import HandS.NoneIn
import HandS.Iter
import HandS.Text
import HandS.CallSlots
import HandS.Defaults
import HandS.WordsExc
import HandS.Dict
import HandS.SortInts
import HandS.Property
import HandS.MakeKw
import HandS.IsInst
import HandS.Zip
import HandS.OwnEq
import HandS.SortRule
import OpenK.KMeth
import KE.GoesMore
import KE.GoesEnum
import HandS.SortOrd
import HandS.MakeKwOnly
import HandS.ClsMeth
import HandS.DictComp
import HandS.CallLocal
import HandS.TryOnly
import HandS.More
import HandS.FStr
import KE.KCallOwn
import PyProof.Conv_bool
import KE.KRevSl
import HandS.Wide
import HandS.Deep
import HandS.Conv
import HandS.SortKw
import HandS.Rev
import HandS.SetFor
import HandS.Strs
import KE.KDictZip
import HandS.TupSets
import PyProof.Rows.CountFlat
import KE.KSortTupAny
import HandS.TupLe
import PyProof.P3In
import HandS.Head0
import HandS.Head1
import HandS.Head2
import HandS.HeadEnd
import HandS.HeadHook1
import HandS.HeadHook2
import HandS.HeadHook3
import HandS.HeadHook4
import HandS.EndBits
import KE.KStateDown
import HandS.HeadNt
set_option Elab.async false
set_option linter.all false
namespace DL
end DL
namespace R
end R
set_option maxRecDepth 100000
set_option maxHeartbeats 4000000
namespace DLH
open PySem PySem.W PySem.Calls PyProof.Rows He He5
def obsR (fa : List Fa) (fn : List DefA) (ex : Frag → Bool) (K : Frag) : AlD := (((fa.all fun f => f.ok K) && fn.all fun d => d.ok K) && ex K, fn.map fun d => He5.fnA K (d.at_ K))
def valR (fn : List DefA) : AlD := (true, fn.map DefA.val)
def SaysR (fa : List Fa) (fn : List DefA) (ex : Frag → Bool) (K : Frag) : Prop := obsR fa fn ex K = valR fn
section
variable {fa : List Fa} {fn : List DefA} {ex : Frag → Bool} {K : Frag}
theorem SaysR.fact (c : SaysR fa fn ex K) (i : Nat) {f : Fa} (h : fa[i]? = some f := by rfl) : f.ok K = true := by
  have c0 := (ba (show (((fa.all fun f => f.ok K) && fn.all fun d => d.ok K) && ex K) = true from congrArg (fun z : AlD => z.1) c)).1
  exact List.all_eq_true.mp (ba c0).1 f (List.mem_of_getElem? h)
theorem SaysR.more (c : SaysR fa fn ex K) : ex K = true := (ba (show (((fa.all fun f => f.ok K) && fn.all fun d => d.ok K) && ex K) = true from congrArg (fun z : AlD => z.1) c)).2
theorem SaysR.def_ (c : SaysR fa fn ex K) (i : Nat) {d : DefA} (h : fn[i]? = some d := by rfl) : ∃ fd, L2.FunD K d.name d.qual d.params d.body d.scope (d.dvs K) (d.kws K) (d.at_ K) fd := by
  have c0 := (ba (show (((fa.all fun f => f.ok K) && fn.all fun d => d.ok K) && ex K) = true from congrArg (fun z : AlD => z.1) c)).1
  have e : fn.map (fun d => He5.fnA K (d.at_ K)) = fn.map DefA.val := congrArg (fun z : AlD => z.2) c
  have e2 : (fn.map fun d => He5.fnA K (d.at_ K))[i]? = (fn.map DefA.val)[i]? := by rw [e]
  rw [List.getElem?_map, List.getElem?_map, h] at e2
  exact DefA.funD (Option.some.inj e2) (List.all_eq_true.mp (ba c0).2 d (List.mem_of_getElem? h))
end
def atG (x : PySem.Str) (K : Frag) : Addr := ga K x
def atM (x m : PySem.Str) (K : Frag) : Addr := ma K (ga K x) m
/-- a property's getter -/
def atP (x m : PySem.Str) (K : Frag) : Addr := wf K (ga K x) "property" m
def propB (K : Frag) (x m : PySem.Str) : Bool := eqO (findIn K (.ref (ga K x)) m) (some (some (.ref (ma K (ga K x) m)))) && (eqO (specialIn K (.ref (ma K (ga K x) m)) "__get__") (some (some (.builtin "property.__get__"))) && (decide (takesIn K (.ref (ma K (ga K x) m)) = some true) && (match recIn K (ma K (ga K x) m) "property" with
    | some (.ref _ :: _) => true
    | _ => false)))
theorem propB_ok {K : Frag} {x m : PySem.Str} (h : propB K x m = true) : L2.PropOf K (ga K x) m (ma K (ga K x) m) (atP x m K) := by
  obtain ⟨h1, h⟩ := ba h
  obtain ⟨h2, h⟩ := ba h
  obtain ⟨h3, h4⟩ := ba h
  refine ⟨eqO_ok h1, eqO_ok h2, of_decide_eq_true h3, ?_⟩
  unfold atP wf
  split at h4
  · rename_i f r e
    exact ⟨r, by rw [e]⟩
  · cases h4
def isB (K : Frag) (x : PySem.Str) : Bool := eqO (findIn K (.ref (ga K x)) "__class__") (some (some (.builtin "object.__class__"))) && (eqO (specialIn K (.builtin "object.__class__") "__get__") (some (some (.builtin "getset_descriptor.__get__"))) && (decide (takesIn K (.builtin "object.__class__") = some true) && (decide (mroIn K (ga K x) (.type "object") = some true) &&
  ["NoneType", "bool", "int", "str", "list", "tuple", "dict"].all fun t => decide (kitOne K (.type t) (.ref (ga K x)) = some false))))
end DLH
set_option maxRecDepth 100000
set_option maxHeartbeats 4000000
namespace DLH
open PySem PySem.W PySem.Calls PyProof.Rows He He5
/-- the i-th row of the table x -/
def rowAt (x : PySem.Str) (i : Nat) (K : Frag) : Addr := match K.lookup (ga K x) with
  | some o => (match o.data with
    | .seq its _ => (match its[i]? with
      | some (.ref a) => a
      | _ => 0)
    | _ => 0)
  | none => 0
/-- at a stands a tuple of these -/
def rowB (K : Frag) (a : Addr) (vs : List Dv) : Bool := match K.lookup a with
  | some o => decide (o.cls = .type "tuple") && (match o.data with
    | .seq its _ => decide (its.size ≤ sizeLine) && relAll (vs.map (Dv.v K)) its.toList
    | _ => false)
  | none => false
theorem rowB_ok {K : Frag} {a : Addr} {vs : List Dv} (h : rowB K a vs = true) (H : L2.Hp) : L2.SqT K H a (vs.map (Dv.v K)) := by
  unfold rowB at h
  cases q : K.lookup a with
  | none => rw [q] at h; cases h
  | some o =>
    rw [q] at h
    obtain ⟨h1, h2⟩ := ba h
    obtain ⟨oc, od, dt, osl⟩ := o
    cases dt with
    | seq its n =>
      obtain ⟨h3, h4⟩ := ba (show (decide (its.size ≤ sizeLine) && relAll (vs.map (Dv.v K)) its.toList) = true from h2)
      exact .inr ⟨_, its, n, q, of_decide_eq_true h1, rfl, of_decide_eq_true h3, relAll_ok h4⟩
    | _ => cases h2
end DLH
namespace DLH
open PySem PySem.W PySem.Calls PyProof.Rows He He5
/-- four rounds, then the codes of the functions found: a last whole round costs much memory -/
def asC (g : Addr → Option Obj) : List Addr :=
  let l := asA g 4
  l ++ l.flatMap fun a => match g a with
    | some o => (match o.data with
      | .func fd => refV fd.code
      | _ => [])
    | none => []
def obsRC (fa : List Fa) (fn : List DefA) (ex : Frag → Bool) (g : Addr → Option Obj) : AlD := obsR fa fn ex (frT g (asC g))
def hookC (fa : List Fa) (fn : List DefA) (ex : Frag → Bool) : PySem.W.Hook where
  α := AlD
  obs := fun s => obsRC fa fn ex s.heap.get?
  val := fun _ => valR fn
  says := fun _ h => ∃ K : Frag, K.In h ∧ SaysR fa fn ex K
  of := fun _ _ e => ⟨_, frT_in, e⟩
  keeps := fun _ _ _ ⟨K, hK, c⟩ k => ⟨K, Frag.In.keeps hK k, c⟩
theorem obsRC_eq {fa : List Fa} {fn : List DefA} {ex : Frag → Bool} {g : Addr → Option Obj} {s : Shared} (h : ∀ a, g a = s.heap.get? a) : obsRC fa fn ex g = (hookC fa fn ex).obs s := by
  have e : g = s.heap.get? := funext h
  rw [e] <;> rfl
end DLH
namespace L47
open PySem PySem.Spec PyProof.Rows L2
def top (i : Nat) : Stmt := PySem.Challenge.pw_ringshares_k47_ring_wishes_tried.main.body.getD i (.Pass ⟨0, 0, 0, 0⟩)
def clsB (s : Stmt) (i : Nat) : Stmt := match s with
  | .ClassDef _ _ _ b _ _ _ _ _ _ _ => b.getD i (.Pass ⟨0, 0, 0, 0⟩)
  | _ => .Pass ⟨0, 0, 0, 0⟩
abbrev s_w_dip : Stmt := top 68
abbrev s_w_parts : Stmt := top 79
abbrev s_w_words : Stmt := top 80
abbrev s_is_ascending : Stmt := top 10
abbrev s_is_whole : Stmt := top 6
abbrev s_is_name : Stmt := top 9
abbrev s_is_word_of : Stmt := top 8
abbrev s_all_marks : Stmt := top 53
abbrev s_arcs_up_to : Stmt := top 51
abbrev s_check_ring : Stmt := top 47
abbrev s_Ring_hosts : Stmt := clsB (top 46) 8
abbrev s_Ring_factor : Stmt := clsB (top 46) 3
abbrev s_Ring_spread : Stmt := clsB (top 46) 4
abbrev s_ahead : Stmt := top 49
abbrev s_Ring_points : Stmt := clsB (top 46) 2
abbrev s_Ring__way : Stmt := clsB (top 46) 22
abbrev s_worst_fall : Stmt := top 58
abbrev s_Ring___getitem__ : Stmt := clsB (top 46) 11
abbrev s_is_form_of : Stmt := top 11
abbrev s_Ring_names : Stmt := clsB (top 46) 9
abbrev s_w_slots : Stmt := top 70
abbrev s_w_keepers : Stmt := top 76
abbrev s_w_well : Stmt := top 67
abbrev s_w_least_left : Stmt := top 81
abbrev s_is_from_to : Stmt := top 7
abbrev s_is_free_name : Stmt := top 37
abbrev s_w_marks : Stmt := top 71
abbrev s_w_of : Stmt := top 69
abbrev s_w_names : Stmt := top 72
abbrev s_w_table : Stmt := top 77
abbrev s_are_free_marks : Stmt := top 36
abbrev s_new_racks_first : Stmt := top 42
abbrev s_check_point : Stmt := top 40
abbrev s_is_wish_for_ring : Stmt := top 63
abbrev s_Ring___contains__ : Stmt := clsB (top 46) 13
abbrev s_w_hosts : Stmt := top 73
abbrev s_w_rules : Stmt := top 74
abbrev s_is_next_host : Stmt := top 38
abbrev s_keepers_in : Stmt := top 43
abbrev s_Ring_walk : Stmt := clsB (top 46) 16
abbrev s_check_name : Stmt := top 41
abbrev s_w_small : Stmt := top 78
abbrev s_check_hosts : Stmt := top 39
abbrev s_walks : Stmt := top 50
abbrev s_Ring___init__ : Stmt := clsB (top 46) 0
abbrev s_keepers_at : Stmt := top 52
abbrev s_cells : Stmt := top 54
abbrev s_w_made : Stmt := top 75
abbrev s_breach : Stmt := top 59
abbrev s_kept : Stmt := top 55
abbrev s_thin_key : Stmt := top 64
abbrev s_bears : Stmt := top 60
abbrev s_stands : Stmt := top 65
abbrev s_w_racks_right : Stmt := top 83
abbrev s_w_shares_right : Stmt := top 82
abbrev s_w_right : Stmt := top 84
abbrev s_law : Stmt := top 85
end L47
set_option maxRecDepth 100000
set_option maxHeartbeats 0
namespace L47
open PySem PySem.Spec PyProof.Rows L2 DL R
def dd_w_dip : He5.DefA := ⟨DLH.atG "_law_dip", "_law_dip", "_law_dip", defArgs s_w_dip, defBody s_w_dip, defScope s_w_dip, [], []⟩
def dd_w_parts : He5.DefA := ⟨DLH.atG "_law_parts", "_law_parts", "_law_parts", defArgs s_w_parts, defBody s_w_parts, defScope s_w_parts, [], []⟩
def dd_w_words : He5.DefA := ⟨DLH.atG "_law_words", "_law_words", "_law_words", defArgs s_w_words, defBody s_w_words, defScope s_w_words, [], []⟩
def dd_is_ascending : He5.DefA := ⟨DLH.atG "is_ascending", "is_ascending", "is_ascending", defArgs s_is_ascending, defBody s_is_ascending, defScope s_is_ascending, [], []⟩
def dd_is_whole : He5.DefA := ⟨DLH.atG "is_whole", "is_whole", "is_whole", defArgs s_is_whole, defBody s_is_whole, defScope s_is_whole, [], []⟩
def dd_is_name : He5.DefA := ⟨DLH.atG "is_name", "is_name", "is_name", defArgs s_is_name, defBody s_is_name, defScope s_is_name, [], []⟩
def dd_is_word_of : He5.DefA := ⟨DLH.atG "is_word_of", "is_word_of", "is_word_of", defArgs s_is_word_of, defBody s_is_word_of, defScope s_is_word_of, [], []⟩
def dd_all_marks : He5.DefA := ⟨DLH.atG "all_marks", "all_marks", "all_marks", defArgs s_all_marks, defBody s_all_marks, defScope s_all_marks, [], []⟩
def dd_arcs_up_to : He5.DefA := ⟨DLH.atG "arcs_up_to", "arcs_up_to", "arcs_up_to", defArgs s_arcs_up_to, defBody s_arcs_up_to, defScope s_arcs_up_to, [], []⟩
def dd_check_ring : He5.DefA := ⟨DLH.atG "check_ring", "check_ring", "check_ring", defArgs s_check_ring, defBody s_check_ring, defScope s_check_ring, [], []⟩
def dd_Ring_hosts : He5.DefA := ⟨DLH.atP "Ring" "hosts", "hosts", "Ring.hosts", defArgs s_Ring_hosts, defBody s_Ring_hosts, defScope s_Ring_hosts, [], []⟩
def dd_Ring_factor : He5.DefA := ⟨DLH.atP "Ring" "factor", "factor", "Ring.factor", defArgs s_Ring_factor, defBody s_Ring_factor, defScope s_Ring_factor, [], []⟩
def dd_Ring_spread : He5.DefA := ⟨DLH.atP "Ring" "spread", "spread", "Ring.spread", defArgs s_Ring_spread, defBody s_Ring_spread, defScope s_Ring_spread, [], []⟩
def dd_ahead : He5.DefA := ⟨DLH.atG "ahead", "ahead", "ahead", defArgs s_ahead, defBody s_ahead, defScope s_ahead, [], []⟩
def dd_Ring_points : He5.DefA := ⟨DLH.atP "Ring" "points", "points", "Ring.points", defArgs s_Ring_points, defBody s_Ring_points, defScope s_Ring_points, [], []⟩
def dd_Ring__way : He5.DefA := ⟨DLH.atM "Ring" "_way", "_way", "Ring._way", defArgs s_Ring__way, defBody s_Ring__way, defScope s_Ring__way, [], []⟩
def dd_worst_fall : He5.DefA := ⟨DLH.atG "worst_fall", "worst_fall", "worst_fall", defArgs s_worst_fall, defBody s_worst_fall, defScope s_worst_fall, [], []⟩
def dd_Ring___getitem__ : He5.DefA := ⟨DLH.atM "Ring" "__getitem__", "__getitem__", "Ring.__getitem__", defArgs s_Ring___getitem__, defBody s_Ring___getitem__, defScope s_Ring___getitem__, [], []⟩
def dd_is_form_of : He5.DefA := ⟨DLH.atG "is_form_of", "is_form_of", "is_form_of", defArgs s_is_form_of, defBody s_is_form_of, defScope s_is_form_of, [], []⟩
def dd_Ring_names : He5.DefA := ⟨DLH.atP "Ring" "names", "names", "Ring.names", defArgs s_Ring_names, defBody s_Ring_names, defScope s_Ring_names, [], []⟩
def dd_w_slots : He5.DefA := ⟨DLH.atG "_law_slots", "_law_slots", "_law_slots", defArgs s_w_slots, defBody s_w_slots, defScope s_w_slots, [], []⟩
def dd_w_keepers : He5.DefA := ⟨DLH.atG "_law_keepers", "_law_keepers", "_law_keepers", defArgs s_w_keepers, defBody s_w_keepers, defScope s_w_keepers, [], []⟩
def dd_w_well : He5.DefA := ⟨DLH.atG "_law_well", "_law_well", "_law_well", defArgs s_w_well, defBody s_w_well, defScope s_w_well, [], []⟩
def dd_w_least_left : He5.DefA := ⟨DLH.atG "_law_least_left", "_law_least_left", "_law_least_left", defArgs s_w_least_left, defBody s_w_least_left, defScope s_w_least_left, [], []⟩
def dd_is_from_to : He5.DefA := ⟨DLH.atG "is_from_to", "is_from_to", "is_from_to", defArgs s_is_from_to, defBody s_is_from_to, defScope s_is_from_to, [], []⟩
def dd_is_free_name : He5.DefA := ⟨DLH.atG "is_free_name", "is_free_name", "is_free_name", defArgs s_is_free_name, defBody s_is_free_name, defScope s_is_free_name, [], []⟩
def dd_w_marks : He5.DefA := ⟨DLH.atG "_law_marks", "_law_marks", "_law_marks", defArgs s_w_marks, defBody s_w_marks, defScope s_w_marks, [], []⟩
def dd_w_of : He5.DefA := ⟨DLH.atG "_law_of", "_law_of", "_law_of", defArgs s_w_of, defBody s_w_of, defScope s_w_of, [], []⟩
def dd_w_names : He5.DefA := ⟨DLH.atG "_law_names", "_law_names", "_law_names", defArgs s_w_names, defBody s_w_names, defScope s_w_names, [], []⟩
def dd_w_table : He5.DefA := ⟨DLH.atG "_law_table", "_law_table", "_law_table", defArgs s_w_table, defBody s_w_table, defScope s_w_table, [], []⟩
def dd_are_free_marks : He5.DefA := ⟨DLH.atG "are_free_marks", "are_free_marks", "are_free_marks", defArgs s_are_free_marks, defBody s_are_free_marks, defScope s_are_free_marks, [], []⟩
def dd_new_racks_first : He5.DefA := ⟨DLH.atG "new_racks_first", "new_racks_first", "new_racks_first", defArgs s_new_racks_first, defBody s_new_racks_first, defScope s_new_racks_first, [], []⟩
def dd_check_point : He5.DefA := ⟨DLH.atG "check_point", "check_point", "check_point", defArgs s_check_point, defBody s_check_point, defScope s_check_point, [], []⟩
def dd_is_wish_for_ring : He5.DefA := ⟨DLH.atG "is_wish_for_ring", "is_wish_for_ring", "is_wish_for_ring", defArgs s_is_wish_for_ring, defBody s_is_wish_for_ring, defScope s_is_wish_for_ring, [], []⟩
def dd_Ring___contains__ : He5.DefA := ⟨DLH.atM "Ring" "__contains__", "__contains__", "Ring.__contains__", defArgs s_Ring___contains__, defBody s_Ring___contains__, defScope s_Ring___contains__, [], []⟩
def dd_w_hosts : He5.DefA := ⟨DLH.atG "_law_hosts", "_law_hosts", "_law_hosts", defArgs s_w_hosts, defBody s_w_hosts, defScope s_w_hosts, [], []⟩
def dd_w_rules : He5.DefA := ⟨DLH.atG "_law_rules", "_law_rules", "_law_rules", defArgs s_w_rules, defBody s_w_rules, defScope s_w_rules, [], []⟩
def dd_is_next_host : He5.DefA := ⟨DLH.atG "is_next_host", "is_next_host", "is_next_host", defArgs s_is_next_host, defBody s_is_next_host, defScope s_is_next_host, [], []⟩
def dd_keepers_in : He5.DefA := ⟨DLH.atG "keepers_in", "keepers_in", "keepers_in", defArgs s_keepers_in, defBody s_keepers_in, defScope s_keepers_in, [], []⟩
def dd_Ring_walk : He5.DefA := ⟨DLH.atM "Ring" "walk", "walk", "Ring.walk", defArgs s_Ring_walk, defBody s_Ring_walk, defScope s_Ring_walk, [], []⟩
def dd_check_name : He5.DefA := ⟨DLH.atG "check_name", "check_name", "check_name", defArgs s_check_name, defBody s_check_name, defScope s_check_name, [], []⟩
def dd_w_small : He5.DefA := ⟨DLH.atG "_law_small", "_law_small", "_law_small", defArgs s_w_small, defBody s_w_small, defScope s_w_small, [], []⟩
def dd_check_hosts : He5.DefA := ⟨DLH.atG "check_hosts", "check_hosts", "check_hosts", defArgs s_check_hosts, defBody s_check_hosts, defScope s_check_hosts, [], []⟩
def dd_walks : He5.DefA := ⟨DLH.atG "walks", "walks", "walks", defArgs s_walks, defBody s_walks, defScope s_walks, [], []⟩
def dd_Ring___init__ : He5.DefA := ⟨DLH.atM "Ring" "__init__", "__init__", "Ring.__init__", defArgs s_Ring___init__, defBody s_Ring___init__, defScope s_Ring___init__, [], []⟩
def dd_keepers_at : He5.DefA := ⟨DLH.atG "keepers_at", "keepers_at", "keepers_at", defArgs s_keepers_at, defBody s_keepers_at, defScope s_keepers_at, [], []⟩
def dd_cells : He5.DefA := ⟨DLH.atG "cells", "cells", "cells", defArgs s_cells, defBody s_cells, defScope s_cells, [], []⟩
def dd_w_made : He5.DefA := ⟨DLH.atG "_law_made", "_law_made", "_law_made", defArgs s_w_made, defBody s_w_made, defScope s_w_made, [], []⟩
def dd_breach : He5.DefA := ⟨DLH.atG "breach", "breach", "breach", defArgs s_breach, defBody s_breach, defScope s_breach, [], []⟩
def dd_kept : He5.DefA := ⟨DLH.atG "kept", "kept", "kept", defArgs s_kept, defBody s_kept, defScope s_kept, [], []⟩
def dd_thin_key : He5.DefA := ⟨DLH.atG "thin_key", "thin_key", "thin_key", defArgs s_thin_key, defBody s_thin_key, defScope s_thin_key, [], []⟩
def dd_bears : He5.DefA := ⟨DLH.atG "bears", "bears", "bears", defArgs s_bears, defBody s_bears, defScope s_bears, [], []⟩
def dd_stands : He5.DefA := ⟨DLH.atG "stands", "stands", "stands", defArgs s_stands, defBody s_stands, defScope s_stands, [], []⟩
def dd_w_racks_right : He5.DefA := ⟨DLH.atG "_law_racks_right", "_law_racks_right", "_law_racks_right", defArgs s_w_racks_right, defBody s_w_racks_right, defScope s_w_racks_right, [], []⟩
def dd_w_shares_right : He5.DefA := ⟨DLH.atG "_law_shares_right", "_law_shares_right", "_law_shares_right", defArgs s_w_shares_right, defBody s_w_shares_right, defScope s_w_shares_right, [], []⟩
def dd_w_right : He5.DefA := ⟨DLH.atG "_law_right", "_law_right", "_law_right", defArgs s_w_right, defBody s_w_right, defScope s_w_right, [], []⟩
def dd_law : He5.DefA := ⟨DLH.atG "law", "law", "law", defArgs s_law, defBody s_law, defScope s_law, [], []⟩
def fnA : List He5.DefA := [dd_w_dip, dd_w_parts, dd_w_words, dd_is_ascending, dd_is_whole, dd_is_name, dd_is_word_of, dd_all_marks, dd_arcs_up_to, dd_check_ring, dd_Ring_hosts, dd_Ring_factor, dd_Ring_spread, dd_ahead, dd_Ring_points, dd_Ring__way, dd_worst_fall, dd_Ring___getitem__, dd_is_form_of, dd_Ring_names, dd_w_slots, dd_w_keepers, dd_w_well, dd_w_least_left, dd_is_from_to, dd_is_free_name, dd_w_marks, dd_w_of, dd_w_names, dd_w_table, dd_are_free_marks, dd_new_racks_first, dd_check_point, dd_is_wish_for_ring, dd_Ring___contains__, dd_w_hosts, dd_w_rules, dd_is_next_host, dd_keepers_in, dd_Ring_walk, dd_check_name, dd_w_small, dd_check_hosts, dd_walks, dd_Ring___init__, dd_keepers_at, dd_cells, dd_w_made, dd_breach, dd_kept, dd_thin_key, dd_bears, dd_stands, dd_w_racks_right, dd_w_shares_right, dd_w_right, dd_law]
def faA0 : List He.Fa := [.glo "_law_dip", .glo "_law_parts", .glo "_law_words", .glo "is_ascending", .glo "is_whole", .glo "is_name", .glo "is_word_of", .glo "all_marks", .glo "arcs_up_to", .glo "check_ring", .glo "ahead", .meth "Ring" "_way", .glo "worst_fall", .meth "Ring" "__getitem__", .glo "is_form_of", .glo "_law_slots", .glo "_law_keepers", .glo "_law_well", .glo "_law_least_left", .glo "is_from_to", .glo "is_free_name", .glo "_law_marks", .glo "_law_of", .glo "_law_names", .glo "_law_table", .glo "are_free_marks", .glo "new_racks_first", .glo "check_point", .glo "is_wish_for_ring", .meth "Ring" "__contains__"]
def faA1 : List He.Fa := [.glo "_law_hosts", .glo "_law_rules", .glo "is_next_host", .glo "keepers_in", .meth "Ring" "walk", .glo "check_name", .glo "_law_small", .glo "check_hosts", .glo "walks", .meth "Ring" "__init__", .glo "keepers_at", .glo "cells", .glo "_law_made", .glo "breach", .glo "kept", .glo "thin_key", .glo "bears", .glo "stands", .glo "_law_racks_right", .glo "_law_shares_right", .glo "_law_right", .glo "law", .glo "Ring", .cls "Ring", .mkr "Ring", .glo "SPREADS", .glo "PENDINGS", .noat "Ring" "_points", .noat "Ring" "_factor", .noat "Ring" "_spread"]
def faA2 : List He.Fa := [.noat "Ring" "_write", .noat "Ring" "_read_number", .noat "Ring" "_pending", .noat "Ring" "_hosts", .noat "Ring" "__bool__", .free "abs", .free "all", .free "any", .free "bool", .free "dict", .free "divmod", .free "enumerate", .free "int", .free "isinstance", .free "len", .free "list", .free "max", .free "min", .free "range", .free "repr", .free "reversed", .free "set", .free "sorted", .free "str", .free "sum", .free "tuple", .free "zip", .str "DIGITS" "0123456789", .str "LETTERS" "abcdefghijklmnopqrstuvwxyz", .int "MOST_FACTOR" 5]
def faA3 : List He.Fa := [.int "MOST_HOSTS" 12, .int "MOST_MARKS" 16, .int "MOST_POINTS" 1000000000000000000, .int "MOST_SIGNS" 8, .glo "RING_WISHES", .glo "KINDS"]
def faA : List He.Fa := faA0 ++ faA1 ++ faA2 ++ faA3
def exA (K : PySem.W.Frag) : Bool := He.tupB K "SPREADS" [.str "hosts", .str "racks"] && (He.tupB K "PENDINGS" [.str "plain", .str "with"] && (DLH.propB K "Ring" "hosts" && (DLH.propB K "Ring" "factor" && (DLH.propB K "Ring" "spread" && (DLH.propB K "Ring" "points" && (DLH.propB K "Ring" "names" && (He.tupB K "KINDS" [.str "hosts", .str "racks"] && (DLH.rowB K (He.ga K "RING_WISHES") [.adr (DLH.rowAt "RING_WISHES" 0), .adr (DLH.rowAt "RING_WISHES" 1), .adr (DLH.rowAt "RING_WISHES" 2)] && (DLH.rowB K (DLH.rowAt "RING_WISHES" 0 K) [.str "share", .int 3] && (DLH.rowB K (DLH.rowAt "RING_WISHES" 1 K) [.str "bears", .int 4] && (DLH.rowB K (DLH.rowAt "RING_WISHES" 2 K) [.str "racks", .int 2] && (DLH.isB K "Ring"))))))))))))
def nmA0 : List PySem.Str := ["_wall", "__name__", "LETTERS", "DIGITS", "MOST_SIGNS", "MOST_DIGITS", "is_whole", "is_from_to", "is_word_of", "is_name", "is_ascending", "is_form_of", "is_written_number", "written_number", "BadValue", "InvalidText", "InvalidNumber", "InvalidSpread", "InvalidPending", "InvalidPoint", "InvalidKind", "InvalidWish", "NotARing", "InvalidHosts", "BadName", "UnknownName", "NoAnswer", "NoRoom", "MOST_POINTS", "MOST_FACTOR"]
def nmA1 : List PySem.Str := ["MOST_HOSTS", "MOST_MARKS", "SPREADS", "PENDINGS", "are_free_marks", "is_free_name", "is_next_host", "check_hosts", "check_point", "check_name", "new_racks_first", "keepers_in", "host_row", "written_host", "Ring", "check_ring", "ahead", "walks", "arcs_up_to", "keepers_at", "all_marks", "cells", "kept", "KINDS", "worst_fall", "breach", "bears", "RING_WISHES", "is_wish_for_ring", "thin_key"]
def nmA2 : List PySem.Str := ["stands", "_law_well", "_law_dip", "_law_of", "_law_slots", "_law_marks", "_law_names", "_law_hosts", "_law_rules", "_law_made", "_law_keepers", "_law_table", "_law_small", "_law_parts", "_law_words", "_law_least_left", "_law_shares_right", "_law_racks_right", "_law_right"]
def nmA : List PySem.Str := nmA0 ++ nmA1 ++ nmA2
abbrev RR : PySem.W.OpenRow := PySem.W.OpenLaw.row PySem.Challenge.rw_ringshares_k47_ring_wishes_tried
abbrev hkA : PySem.W.Hook := DLH.hookC faA fnA exA
def obA (s : PySem.W.SharedT) : He.AlD := DLH.obsRC faA fnA exA (HandSHeadRun.getT s)
theorem obA_eq (s : PySem.W.SharedT) : obA s = hkA.obs s.abs := DLH.obsRC_eq (HandSHeadRun.getT_eq s)
theorem runA (w : World) : HandSHeadRun.RunEq RR (PySem.W.view RR.prog [85]) hkA obA 9000 nmA w := by
  intro os
  kernel_rfl
end L47
set_option maxRecDepth 100000
set_option maxHeartbeats 4000000
namespace DL
open PySem PySem.Spec PyProof.Rows L2
inductive D where
  | non | bl (b : Bool) | int (i : Int) | str (x : Str) | ty (n : String)
  | lst (xs : List D) | tup (xs : List D) | lsf (xs : List D)
  | dic (ks : List Key) (vs : List D)
  | ins (C : Addr) (fs : List Str) (vs : List D)
  | cel (a : Addr)
mutual
inductive Dn (K : PySem.W.Frag) (H : Hp) : V → D → Prop
  | non : Dn K H .non .non
  | bl (b : Bool) : Dn K H (.bl b) (.bl b)
  | int (i : Int) : Dn K H (.int i) (.int i)
  | str (x : Str) : Dn K H (.str x) (.str x)
  | ty (n : String) : Dn K H (.ty n) (.ty n)
  | cel (a : Addr) : Dn K H (.ref a) (.cel a)
  | lst {a : Addr} {vs : List V} {ds : List D} : H a = some (.lst vs) → DnL K H vs ds → Dn K H (.ref a) (.lst ds)
  | lsf {a : Addr} {vs : List V} {ds : List D} : SqL K H a vs → DnL K H vs ds → Dn K H (.ref a) (.lsf ds)
  | tup {a : Addr} {vs : List V} {ds : List D} : SqT K H a vs → DnL K H vs ds → Dn K H (.ref a) (.tup ds)
  | dic {a : Addr} {kvs : List (Key × V)} {ds : List D} : H a = some (.dK kvs) → DnL K H (kvs.map (·.2)) ds → Dn K H (.ref a) (.dic (kvs.map (·.1)) ds)
  | ins {a C dx : Addr} {fs : List (Str × V)} {ds : List D} : H a = some (.ins C dx fs) → DnL K H (fs.map (·.2)) ds → Dn K H (.ref a) (.ins C (fs.map (·.1)) ds)
inductive DnL (K : PySem.W.Frag) (H : Hp) : List V → List D → Prop
  | nil : DnL K H [] []
  | cons {v : V} {vs : List V} {d : D} {ds : List D} : Dn K H v d → DnL K H vs ds → DnL K H (v :: vs) (d :: ds)
end
/-- H' knows all that H knows -/
def Ext (H H' : Hp) : Prop := ∀ a o, H a = some o → H' a = some o
theorem Ext.refl (H : Hp) : Ext H H := fun _ _ h => h
theorem Ext.trans {H H1 H2 : Hp} (a : Ext H H1) (b : Ext H1 H2) : Ext H H2 := fun x o h => b x o (a x o h)
theorem Ext.fresh {H H' : Hp} {p : Addr} (e : Ext H H') (h : H' p = none) : H p = none := by
  cases q : H p with
  | none => rfl
  | some o => rw [e p o q] at h; cases h
theorem Ext.add {H : Hp} {p : Addr} {o : HO} (h : H p = none) : Ext H (upd H p o) := fun a u e => by
  rw [upd_ne (ne_of_none e h)]; exact e
theorem Ext.both {H H' : Hp} {p : Addr} {o : HO} (e : Ext H H') : Ext (upd H p o) (upd H' p o) := fun a u h => by
  by_cases q : a = p
  · subst q; rw [upd_same] at h ⊢; exact h
  · rw [upd_ne q] at h ⊢; exact e a u h
theorem Ext.off {H H' : Hp} {p : Addr} {o : HO} (e : Ext H H') (h : H p = none) : Ext H (upd H' p o) := fun a u ha => by
  rw [upd_ne (ne_of_none ha h)]; exact e a u ha
theorem Ext.rd {H H' : Hp} {a : Addr} {u : HO} (e : Ext H H') (h : Rd H a u) : Rd H' a u :=
  h.elim (fun z => .inl (e a _ z)) fun ⟨o, z⟩ => .inr ⟨o, e a _ z⟩
theorem Ext.sqL {K : PySem.W.Frag} {H H' : Hp} {a : Addr} {xs : List V} (e : Ext H H') (h : SqL K H a xs) : SqL K H' a xs := h.elim (fun z => .inl (e.rd z)) .inr
theorem Ext.sqT {K : PySem.W.Frag} {H H' : Hp} {a : Addr} {xs : List V} (e : Ext H H') (h : SqT K H a xs) : SqT K H' a xs := h.elim (fun z => .inl (e.rd z)) .inr
mutual
theorem Dn.mono {K : PySem.W.Frag} {H H' : Hp} (e : Ext H H') : ∀ {v : V} {d : D}, Dn K H v d → Dn K H' v d
  | _, _, .non => .non
  | _, _, .bl b => .bl b
  | _, _, .int b => .int b
  | _, _, .str b => .str b
  | _, _, .ty b => .ty b
  | _, _, .cel b => .cel b
  | _, _, .lst h r => .lst (e _ _ h) (DnL.mono e r)
  | _, _, .lsf h r => .lsf (e.sqL h) (DnL.mono e r)
  | _, _, .tup h r => .tup (e.sqT h) (DnL.mono e r)
  | _, _, .dic h r => .dic (e _ _ h) (DnL.mono e r)
  | _, _, .ins h r => .ins (e _ _ h) (DnL.mono e r)
theorem DnL.mono {K : PySem.W.Frag} {H H' : Hp} (e : Ext H H') : ∀ {v : List V} {d : List D}, DnL K H v d → DnL K H' v d
  | _, _, .nil => .nil
  | _, _, .cons h r => .cons (Dn.mono e h) (DnL.mono e r)
end
section
variable {K : PySem.W.Frag} {H H' : Hp}
theorem DnL.length : ∀ {vs : List V} {ds : List D}, DnL K H vs ds → vs.length = ds.length
  | _, _, .nil => rfl
  | _, _, .cons _ r => congrArg (· + 1) (DnL.length r)
theorem DnL.get : ∀ {vs : List V} {ds : List D} {i : Nat} {d : D}, DnL K H vs ds → ds[i]? = some d → ∃ v, vs[i]? = some v ∧ Dn K H v d
  | _, _, _, _, .nil, h => by simp at h
  | _, _, 0, _, .cons a _, h => by simp at h; subst h; exact ⟨_, rfl, a⟩
  | _, _, i + 1, _, .cons _ r, h => by
    obtain ⟨v, h1, h2⟩ := DnL.get (i := i) r (by simpa using h)
    exact ⟨v, by simpa using h1, h2⟩
theorem DnL.getV : ∀ {vs : List V} {ds : List D} {i : Nat} {v : V}, DnL K H vs ds → vs[i]? = some v → ∃ d, ds[i]? = some d ∧ Dn K H v d
  | _, _, _, _, .nil, h => by simp at h
  | _, _, 0, _, .cons a _, h => by simp at h; subst h; exact ⟨_, rfl, a⟩
  | _, _, i + 1, _, .cons _ r, h => by
    obtain ⟨v, h1, h2⟩ := DnL.getV (i := i) r (by simpa using h)
    exact ⟨v, by simpa using h1, h2⟩
theorem DnL.app : ∀ {vs ws : List V} {ds es : List D}, DnL K H vs ds → DnL K H ws es → DnL K H (vs ++ ws) (ds ++ es)
  | _, _, _, _, .nil, s => s
  | _, _, _, _, .cons a r, s => .cons a (DnL.app r s)
theorem DnL.one {v : V} {d : D} (h : Dn K H v d) : DnL K H [v] [d] := .cons h .nil
theorem DnL.take : ∀ {vs : List V} {ds : List D} (n : Nat), DnL K H vs ds → DnL K H (vs.take n) (ds.take n)
  | _, _, 0, _ => .nil
  | _, _, _ + 1, .nil => .nil
  | _, _, n + 1, .cons a r => .cons a (DnL.take n r)
theorem DnL.drop : ∀ {vs : List V} {ds : List D} (n : Nat), DnL K H vs ds → DnL K H (vs.drop n) (ds.drop n)
  | _, _, 0, r => r
  | _, _, _ + 1, .nil => .nil
  | _, _, n + 1, .cons _ r => DnL.drop n r
theorem DnL.set : ∀ {vs : List V} {ds : List D} {v : V} {d : D} (n : Nat), DnL K H vs ds → Dn K H v d → DnL K H (vs.set n v) (ds.set n d)
  | _, _, _, _, _, .nil, _ => .nil
  | _, _, _, _, 0, .cons _ r, h => .cons h r
  | _, _, _, _, n + 1, .cons a r, h => .cons a (DnL.set n r h)
theorem DnL.rep {vs : List V} {ds : List D} (h : DnL K H vs ds) : ∀ n : Nat, DnL K H (List.replicate n vs).flatten (List.replicate n ds).flatten
  | 0 => .nil
  | n + 1 => DnL.app h (DnL.rep h n)
theorem DnL.rev : ∀ {vs : List V} {ds : List D}, DnL K H vs ds → DnL K H vs.reverse ds.reverse
  | _, _, .nil => .nil
  | _, _, .cons a r => by rw [List.reverse_cons, List.reverse_cons]; exact DnL.app (DnL.rev r) (.one a)
theorem Dn.inv_int {v : V} {i : Int} (h : Dn K H v (.int i)) : v = .int i := by cases h; rfl
theorem Dn.inv_bl {v : V} {i : Bool} (h : Dn K H v (.bl i)) : v = .bl i := by cases h; rfl
theorem Dn.inv_str {v : V} {i : Str} (h : Dn K H v (.str i)) : v = .str i := by cases h; rfl
theorem Dn.inv_non {v : V} (h : Dn K H v .non) : v = .non := by cases h; rfl
end
inductive Cel where
  | ls (xs : List D)
  | dc (kvs : List (Key × D))
  | ob (C : Addr) (fs : List (Str × D))
  | fd (o : Obj) (rs : List (Key × V)) (kvs : List (Key × D))
abbrev Mem := Addr → Option Cel
def mset (M : Mem) (a : Addr) (x : Cel) : Mem := fun b => if b = a then some x else M b
theorem mset_same {M : Mem} {a : Addr} {x : Cel} : mset M a x a = some x := if_pos rfl
theorem mset_ne {M : Mem} {a b : Addr} {x : Cel} (h : b ≠ a) : mset M a x b = M b := if_neg h
theorem mset_mset {M : Mem} {a : Addr} {x y : Cel} : mset (mset M a x) a y = mset M a y := by
  funext b; unfold mset; split <;> rfl
inductive KvL {α : Type} (K : PySem.W.Frag) (H : Hp) : List (α × V) → List (α × D) → Prop
  | nil : KvL K H [] []
  | cons {k : α} {v : V} {d : D} {r : List (α × V)} {s : List (α × D)} : Dn K H v d → KvL K H r s → KvL K H ((k, v) :: r) ((k, d) :: s)
theorem KvL.mono {α : Type} {K : PySem.W.Frag} {H H' : Hp} (e : Ext H H') : ∀ {r : List (α × V)} {s : List (α × D)}, KvL K H r s → KvL K H' r s
  | _, _, .nil => .nil
  | _, _, .cons a b => .cons (a.mono e) (KvL.mono e b)
def CelOk (K : PySem.W.Frag) (H0 H : Hp) (c : Addr) : Cel → Prop
  | .ls xs => ∃ vs, H c = some (.lst vs) ∧ DnL K H0 vs xs
  | .dc ds => ∃ kvs, H c = some (.dK kvs) ∧ KvL K H0 kvs ds
  | .ob C fs => ∃ dx fvs, H c = some (.ins C dx fvs) ∧ KvL K H0 fvs fs
  | .fd o rs ds => H c = some (.frz o (.dK rs)) ∧ KvL K H0 rs ds
theorem CelOk.same {K : PySem.W.Frag} {H0 H H1 H' : Hp} {c : Addr} {x : Cel} (h : CelOk K H0 H c x) (e : Ext H0 H1) (q : H' c = H c) : CelOk K H1 H' c x := by
  cases x with
  | ls xs => obtain ⟨vs, a, b⟩ := h; exact ⟨vs, by rw [q]; exact a, b.mono e⟩
  | dc ds => obtain ⟨vs, a, b⟩ := h; exact ⟨vs, by rw [q]; exact a, b.mono e⟩
  | ob C fs => obtain ⟨dx, vs, a, b⟩ := h; exact ⟨dx, vs, by rw [q]; exact a, b.mono e⟩
  | fd o rs ds => obtain ⟨a, b⟩ := h; exact ⟨by rw [q]; exact a, b.mono e⟩
theorem CelOk.there {K : PySem.W.Frag} {H0 H : Hp} {c : Addr} {x : Cel} (h : CelOk K H0 H c x) : ∃ o, H c = some o := by
  cases x with
  | ls xs => obtain ⟨vs, a, b⟩ := h; exact ⟨_, a⟩
  | dc ds => obtain ⟨vs, a, b⟩ := h; exact ⟨_, a⟩
  | ob C fs => obtain ⟨dx, vs, a, b⟩ := h; exact ⟨_, a⟩
  | fd o rs ds => obtain ⟨a, b⟩ := h; exact ⟨_, a⟩
structure SD (K : PySem.W.Frag) (H0 H : Hp) (M : Mem) : Prop where
  ex : Ext H0 H
  any : ∀ c x, M c = some x → H0 c = none ∧ CelOk K H0 H c x
section
variable {K : PySem.W.Frag} {H0 H : Hp} {M : Mem}
theorem SD.cell (S : SD K H0 H M) (c : Addr) (xs : List D) (h : M c = some (.ls xs)) : H0 c = none ∧ ∃ vs, H c = some (.lst vs) ∧ DnL K H0 vs xs := S.any c _ h
theorem SD.fresh (S : SD K H0 H M) {p : Addr} (h : H p = none) : H0 p = none ∧ M p = none := by
  refine ⟨S.ex.fresh h, ?_⟩
  cases q : M p with
  | none => rfl
  | some x =>
    obtain ⟨o, e⟩ := (S.any p x q).2.there
    rw [h] at e; cases e
/-- a new object -/
theorem SD.new (S : SD K H0 H M) {p : Addr} {o : HO} (h : H p = none) : SD K (upd H0 p o) (upd H p o) M := by
  refine ⟨S.ex.both, fun c x e => ?_⟩
  obtain ⟨n0, ok⟩ := S.any c x e
  obtain ⟨o1, e1⟩ := ok.there
  have ne : c ≠ p := ne_of_none e1 h
  exact ⟨by rw [upd_ne ne]; exact n0, ok.same (Ext.add (S.fresh h).1) (upd_ne ne)⟩
/-- a cell, new or old, as it stands from now on -/
theorem SD.put (S : SD K H0 H M) {p : Addr} {o : HO} {x : Cel} (h0 : H0 p = none) (ok : ∀ H', H' p = some o → CelOk K H0 H' p x) : SD K H0 (upd H p o) (mset M p x) := by
  refine ⟨S.ex.off h0, fun c y e => ?_⟩
  by_cases q : c = p
  · subst q; rw [mset_same] at e; cases e
    exact ⟨h0, ok _ upd_same⟩
  · rw [mset_ne q] at e
    obtain ⟨n1, k⟩ := S.any c y e
    exact ⟨n1, k.same (Ext.refl _) (upd_ne q)⟩
/-- a new cell -/
theorem SD.newCell (S : SD K H0 H M) {p : Addr} {vs : List V} {xs : List D} (h : H p = none) (r : DnL K H0 vs xs) : SD K H0 (upd H p (.lst vs)) (mset M p (.ls xs)) := S.put (S.fresh h).1 fun _ e => ⟨vs, e, r⟩
/-- a cell written -/
theorem SD.write (S : SD K H0 H M) {p : Addr} {vs : List V} {xs : List D} {y : Cel} (h : M p = some y) (r : DnL K H0 vs xs) : SD K H0 (upd H p (.lst vs)) (mset M p (.ls xs)) := S.put (S.any p y h).1 fun _ e => ⟨vs, e, r⟩
/-- an object that nobody tells of changes -/
theorem SD.aside (S : SD K H0 H M) {p : Addr} {o : HO} (h : H p = none) : SD K H0 (upd H p o) M := by
  refine ⟨S.ex.off (S.fresh h).1, fun c x e => ?_⟩
  obtain ⟨n1, k⟩ := S.any c x e
  obtain ⟨o1, e1⟩ := k.there
  exact ⟨n1, k.same (Ext.refl _) (upd_ne (ne_of_none e1 h))⟩
end
def celL (M : Mem) (c : Addr) : Option (List D) := match M c with
  | some (.ls xs) => some xs
  | _ => none
theorem celL_eq {M : Mem} {c : Addr} {xs : List D} (h : celL M c = some xs) : M c = some (.ls xs) := by
  unfold celL at h
  split at h
  · cases h; assumption
  · cases h
theorem celL_of {M : Mem} {c : Addr} {xs : List D} (h : M c = some (.ls xs)) : celL M c = some xs := by unfold celL; rw [h]
/-- the items of a list -/
def lstOf (M : Mem) : D → Option (List D)
  | .lst xs => some xs
  | .cel c => celL M c
  | _ => none
def tupOf : D → Option (List D)
  | .tup xs => some xs
  | _ => none
def lsqOf (M : Mem) : D → Option (List D)
  | .lst xs => some xs
  | .cel c => celL M c
  | .lsf xs => some xs
  | _ => none
def seqOf (M : Mem) : D → Option (List D)
  | .lst xs => some xs
  | .cel c => celL M c
  | .lsf xs => some xs
  | .tup xs => some xs
  | _ => none
section
variable {K : PySem.W.Frag} {H0 H : Hp} {M : Mem}
theorem SD.lst (S : SD K H0 H M) {v : V} {d : D} {xs : List D} (h : Dn K H0 v d) (e : lstOf M d = some xs) : ∃ a vs, v = .ref a ∧ H a = some (.lst vs) ∧ DnL K H0 vs xs := by
  cases h with
  | lst q r => cases e; exact ⟨_, _, rfl, S.ex _ _ q, r⟩
  | cel a =>
    obtain ⟨_, vs, e1, r⟩ := S.cell a xs (celL_eq e)
    exact ⟨a, vs, rfl, e1, r⟩
  | _ => cases e
theorem SD.seq (S : SD K H0 H M) {v : V} {d : D} {xs : List D} (h : Dn K H0 v d) (e : seqOf M d = some xs) : ∃ a vs, v = .ref a ∧ (SqL K H a vs ∨ SqT K H a vs) ∧ DnL K H0 vs xs := by
  cases h with
  | lst q r => cases e; exact ⟨_, _, rfl, .inl (SqL.of (S.ex _ _ q)), r⟩
  | lsf q r => cases e; exact ⟨_, _, rfl, .inl (S.ex.sqL q), r⟩
  | tup q r => cases e; exact ⟨_, _, rfl, .inr (S.ex.sqT q), r⟩
  | cel a =>
    obtain ⟨_, vs, e1, r⟩ := S.cell a xs (celL_eq e)
    exact ⟨a, vs, rfl, .inl (SqL.of e1), r⟩
  | _ => cases e
theorem SD.lsq (S : SD K H0 H M) {v : V} {d : D} {xs : List D} (h : Dn K H0 v d) (e : lsqOf M d = some xs) : ∃ a vs, v = .ref a ∧ SqL K H a vs ∧ DnL K H0 vs xs := by
  cases h with
  | lst q r => cases e; exact ⟨_, _, rfl, SqL.of (S.ex _ _ q), r⟩
  | lsf q r => cases e; exact ⟨_, _, rfl, S.ex.sqL q, r⟩
  | cel a =>
    obtain ⟨_, vs, e1, r⟩ := S.cell a xs (celL_eq e)
    exact ⟨a, vs, rfl, SqL.of e1, r⟩
  | _ => cases e
theorem SD.tup (S : SD K H0 H M) {v : V} {d : D} {xs : List D} (h : Dn K H0 v d) (e : tupOf d = some xs) : ∃ a vs, v = .ref a ∧ SqT K H a vs ∧ DnL K H0 vs xs := by
  cases h with
  | tup q r => cases e; exact ⟨_, _, rfl, S.ex.sqT q, r⟩
  | _ => cases e
end
abbrev EnvD := List (Option D)
abbrev QD := D → Mem → Prop
/-- an exception: its class, its own attributes -/
abbrev XD := Value → List Str → List D → Mem → Prop
abbrev DE := EnvD → Mem → QD → XD → Prop
abbrev DT := EnvD → Mem → (Bool → Mem → Prop) → XD → Prop
abbrev DA := EnvD → Mem → (List D → Mem → Prop) → XD → Prop
structure SlotOk (K : PySem.W.Frag) (H0 : Hp) (σ : L2.St) (env : EnvD) : Prop where
  len : σ.length = env.length
  get : ∀ (i : Nat) (d : D), env[i]? = some (some d) → ∃ v, σ[i]? = some (some v) ∧ Dn K H0 v d
def XdOk (K : PySem.W.Frag) (H0 H : Hp) (d : Option Addr) (ns : List Str) (ds : List D) : Prop :=
  (d = none ∧ ns = [] ∧ ds = []) ∨ ∃ a fs, d = some a ∧ H a = some (.xd fs) ∧ fs.map (·.1) = ns ∧ DnL K H0 (fs.map (·.2)) ds
def KQ (K : PySem.W.Frag) (H0 : Hp) (q : QD) (Q : VK) : Prop := ∀ v d H0' H' M', Ext H0 H0' → SD K H0' H' M' → Dn K H0' v d → q d M' → Q v H'
def KB (K : PySem.W.Frag) (H0 : Hp) (q : Bool → Mem → Prop) (Q : Bool → Hp → Prop) : Prop := ∀ b H0' H' M', Ext H0 H0' → SD K H0' H' M' → q b M' → Q b H'
def KA (K : PySem.W.Frag) (H0 : Hp) (q : List D → Mem → Prop) (Q : List V → Hp → Prop) : Prop := ∀ vs ds H0' H' M', Ext H0 H0' → SD K H0' H' M' → DnL K H0' vs ds → q ds M' → Q vs H'
def KX (K : PySem.W.Frag) (H0 : Hp) (E : XD) (W : XK) : Prop := ∀ cls dd ns ds H0' H' M', Ext H0 H0' → SD K H0' H' M' → XdOk K H0' H' dd ns ds → E cls ns ds M' → W cls dd H'
section
variable {K : PySem.W.Frag} {H0 H1 : Hp}
theorem KQ.mono {q : QD} {Q : VK} (h : KQ K H0 q Q) (e : Ext H0 H1) : KQ K H1 q Q := fun v d _ _ _ e' => h v d _ _ _ (e.trans e')
theorem KB.mono {q : Bool → Mem → Prop} {Q : Bool → Hp → Prop} (h : KB K H0 q Q) (e : Ext H0 H1) : KB K H1 q Q := fun v _ _ _ e' => h v _ _ _ (e.trans e')
theorem KA.mono {q : List D → Mem → Prop} {Q : List V → Hp → Prop} (h : KA K H0 q Q) (e : Ext H0 H1) : KA K H1 q Q := fun v d _ _ _ e' => h v d _ _ _ (e.trans e')
theorem KX.mono {q : XD} {Q : XK} (h : KX K H0 q Q) (e : Ext H0 H1) : KX K H1 q Q := fun c d n s _ _ _ e' => h c d n s _ _ _ (e.trans e')
theorem SlotOk.mono {σ : L2.St} {env : EnvD} (h : SlotOk K H0 σ env) (e : Ext H0 H1) : SlotOk K H1 σ env := ⟨h.len, fun i d q => let ⟨v, a, b⟩ := h.get i d q; ⟨v, a, b.mono e⟩⟩
theorem SlotOk.set {σ : L2.St} {env : EnvD} (h : SlotOk K H0 σ env) {v : V} {d : D} (i : Nat) (r : Dn K H0 v d) : SlotOk K H0 (σ.set i (some v)) (env.set i (some d)) := by
  refine ⟨by rw [List.length_set, List.length_set]; exact h.len, fun j e q => ?_⟩
  by_cases hj : i = j
  · subst hj
    have hi : i < env.length := by
      have := (List.getElem?_eq_some_iff.mp q).1
      rwa [List.length_set] at this
    rw [List.getElem?_set_self hi] at q
    cases q
    exact ⟨v, by rw [List.getElem?_set_self (by rw [h.len]; exact hi)], r⟩
  · rw [List.getElem?_set_ne hj] at q
    obtain ⟨u, a, b⟩ := h.get j e q
    exact ⟨u, by rw [List.getElem?_set_ne hj]; exact a, b⟩
end
def liftE (K : PySem.W.Frag) (W : WX) (de : DE) : TE := fun σ H Q => ∃ env M q E H0, SlotOk K H0 σ env ∧ SD K H0 H M ∧ de env M q E ∧ KQ K H0 q Q ∧ KX K H0 E fun c d => W c d σ
def liftT (K : PySem.W.Frag) (W : WX) (dt : DT) : TT := fun σ H Q => ∃ env M q E H0, SlotOk K H0 σ env ∧ SD K H0 H M ∧ dt env M q E ∧ KB K H0 q Q ∧ KX K H0 E fun c d => W c d σ
def liftA (K : PySem.W.Frag) (W : WX) (da : DA) : TA := fun σ H Q => ∃ env M q E H0, SlotOk K H0 σ env ∧ SD K H0 H M ∧ da env M q E ∧ KA K H0 q Q ∧ KX K H0 E fun c d => W c d σ
def PD (X : Cx) (W : WX) (e : Expr) (de : DE) : Prop := PE X e (liftE X.K W de)
def TD (X : Cx) (W : WX) (e : Expr) (dt : DT) : Prop := PT X e (liftT X.K W dt)
def AD (X : Cx) (W : WX) (es : List Expr) (da : DA) : Prop := PA X es (liftA X.K W da)
theorem peImp {X : Cx} {e : Expr} {t t' : TE} (h : PE X e t) (i : ∀ σ H Q, t' σ H Q → t σ H Q) : PE X e t' := ⟨fun pins s σ H Q I q => h.run pins s σ H Q I (i σ H Q q)⟩
theorem ptImp {X : Cx} {e : Expr} {t t' : TT} (h : PT X e t) (i : ∀ σ H Q, t' σ H Q → t σ H Q) : PT X e t' := ⟨fun pins s σ H Q I q => h.run pins s σ H Q I (i σ H Q q)⟩
theorem paImp {X : Cx} {e : List Expr} {t t' : TA} (h : PA X e t) (i : ∀ σ H Q, t' σ H Q → t σ H Q) : PA X e t' := ⟨fun pos pins s σ H Q I q => h.run pos pins s σ H Q I (i σ H Q q)⟩
theorem psImp {X : Cx} {e : Stmt} {t t' : TS} (h : PS X e t) (i : ∀ D σ H, t' D σ H → t D σ H) : PS X e t' := ⟨fun pins s σ H D I q => h.run pins s σ H D I (i D σ H q)⟩
theorem pssImp {X : Cx} {e : List Stmt} {t t' : TS} (h : PSs X e t) (i : ∀ D σ H, t' D σ H → t D σ H) : PSs X e t' := ⟨fun pins s σ H D I q => h.run pins s σ H D I (i D σ H q)⟩
/-- run an expression's lift, then go on -/
theorem goE {K : PySem.W.Frag} {W : WX} {de : DE} {σ : L2.St} {H H0 : Hp} {env : EnvD} {M : Mem} {q : QD} {E : XD} {Q : VK} (so : SlotOk K H0 σ env) (S : SD K H0 H M) (h : de env M q E) (kx : KX K H0 E fun c d => W c d σ)
    (k : ∀ v d H0' H' M', Ext H0 H0' → SlotOk K H0' σ env → SD K H0' H' M' → Dn K H0' v d → q d M' → (KX K H0' E fun c d => W c d σ) → Q v H') : liftE K W de σ H Q :=
  ⟨env, M, q, E, H0, so, S, h, fun v d H0' H' M' e S' r z => k v d H0' H' M' e (so.mono e) S' r z (kx.mono e), kx⟩
theorem goT {K : PySem.W.Frag} {W : WX} {de : DT} {σ : L2.St} {H H0 : Hp} {env : EnvD} {M : Mem} {q : Bool → Mem → Prop} {E : XD} {Q : Bool → Hp → Prop} (so : SlotOk K H0 σ env) (S : SD K H0 H M) (h : de env M q E) (kx : KX K H0 E fun c d => W c d σ)
    (k : ∀ b H0' H' M', Ext H0 H0' → SlotOk K H0' σ env → SD K H0' H' M' → q b M' → (KX K H0' E fun c d => W c d σ) → Q b H') : liftT K W de σ H Q :=
  ⟨env, M, q, E, H0, so, S, h, fun b H0' H' M' e S' z => k b H0' H' M' e (so.mono e) S' z (kx.mono e), kx⟩
theorem goA {K : PySem.W.Frag} {W : WX} {de : DA} {σ : L2.St} {H H0 : Hp} {env : EnvD} {M : Mem} {q : List D → Mem → Prop} {E : XD} {Q : List V → Hp → Prop} (so : SlotOk K H0 σ env) (S : SD K H0 H M) (h : de env M q E) (kx : KX K H0 E fun c d => W c d σ)
    (k : ∀ v d H0' H' M', Ext H0 H0' → SlotOk K H0' σ env → SD K H0' H' M' → DnL K H0' v d → q d M' → (KX K H0' E fun c d => W c d σ) → Q v H') : liftA K W de σ H Q :=
  ⟨env, M, q, E, H0, so, S, h, fun v d H0' H' M' e S' r z => k v d H0' H' M' e (so.mono e) S' r z (kx.mono e), kx⟩
section
variable {X : Cx} {W : WX}
@[reducible] def dVar (i : Nat) : DE := fun env M q _ => ∃ d, env[i]? = some (some d) ∧ q d M
@[reducible] def dC (d : D) : DE := fun _ M q _ => q d M
theorem pd_of_tC {e : Expr} {v : V} {d : D} (h : PE X e (tC v)) (r : ∀ H, Dn X.K H v d) : PD X W e (dC d) := peImp h fun σ H Q ⟨env, M, q, E, H0, so, S, z, k, kx⟩ => k v d H0 H M (Ext.refl H0) S (r H0) z
theorem pd_var {e : Expr} {i : Nat} (h : PE X e (tVar i)) : PD X W e (dVar i) := peImp h fun σ H Q ⟨env, M, q, E, H0, so, S, z, k, kx⟩ => by
  obtain ⟨d, e, z⟩ := z
  obtain ⟨v, e1, r⟩ := so.get i d e
  exact ⟨v, e1, k v d H0 H M (Ext.refl H0) S r z⟩
theorem pd_int {i : Int} {j pos} : PD X W (.Constant (.int i) j pos) (dC (.int i)) := pd_of_tC pe_int fun _ => .int i
theorem pd_bl {i : Bool} {j pos} : PD X W (.Constant (.bool i) j pos) (dC (.bl i)) := pd_of_tC pe_bl fun _ => .bl i
theorem pd_str {i : Str} {j pos} : PD X W (.Constant (.str i) j pos) (dC (.str i)) := pd_of_tC pe_str fun _ => .str i
theorem pd_non {j pos} : PD X W (.Constant .none j pos) (dC .non) := pd_of_tC pe_non fun _ => .non
/-- the name in slot i -/
theorem vr (i : Nat) {x : Str} {pos : Pos} (hN : X.N[i]? = some x := by rfl) (hv : Vis X.env.scope x := by first | exact Or.inl rfl | exact Or.inr (Or.inl rfl) | exact Or.inr (Or.inr rfl)) (hd : (x == ("__debug__" : Str)) = false := by decide)
    (hcd : (x == ("__classdict__" : Str)) = false := by decide) : PD X W (.Name x pos) (dVar i) := pd_var (pe_var hN hv hd hcd)
abbrev RD1 := D → Mem → QD → Prop
abbrev RD2 := D → D → Mem → QD → Prop
abbrev RDL := List D → Mem → QD → Prop
def OpD (X : Cx) (f : Value → Value → Sem Value) (rd : RD2) : Prop := ∃ r, OpR X f r ∧ ∀ H0 H M x y dx dy q Q, SD X.K H0 H M → Dn X.K H0 x dx → Dn X.K H0 y dy → rd dx dy M q → KQ X.K H0 q Q → r x y H Q
theorem OpD.or {f : Value → Value → Sem Value} {a b : RD2} (h : OpD X f a) (h' : OpD X f b) : OpD X f (fun x y M q => a x y M q ∨ b x y M q) := by
  obtain ⟨r, o, z⟩ := h
  obtain ⟨r', o', z'⟩ := h'
  refine ⟨fun x y H Q => r x y H Q ∨ r' x y H Q, fun pins s σ H x y v u Q I rx ry w => ?_, fun H0 H M x y dx dy q Q S hx hy w k => w.elim (fun w => .inl (z H0 H M x y dx dy q Q S hx hy w k)) fun w => .inr (z' H0 H M x y dx dy q Q S hx hy w k)⟩
  rcases w with w | w
  · exact o pins s σ H x y v u Q I rx ry w
  · exact o' pins s σ H x y v u Q I rx ry w
theorem OpD.imp {f : Value → Value → Sem Value} {a b : RD2} (h : OpD X f a) (i : ∀ x y M q, b x y M q → a x y M q) : OpD X f b := by
  obtain ⟨r, o, z⟩ := h
  exact ⟨r, o, fun H0 H M x y dx dy q Q S hx hy w k => z H0 H M x y dx dy q Q S hx hy (i _ _ _ _ w) k⟩
@[reducible] def dOp (rd : RD2) (da db : DE) : DE := fun env M q E => da env M (fun x M1 => db env M1 (fun y M2 => rd x y M2 q) E) E
theorem lift_op {rd : RD2} {r : R2} {da db : DE} {K : PySem.W.Frag} (z : ∀ H0 H M x y dx dy q Q, SD K H0 H M → Dn K H0 x dx → Dn K H0 y dy → rd dx dy M q → KQ K H0 q Q → r x y H Q) :
    ∀ σ H Q, liftE K W (dOp rd da db) σ H Q → tOp r (liftE K W da) (liftE K W db) σ H Q := fun σ H Q ⟨env, M, q, E, H0, so, S, h, k, kx⟩ =>
  goE so S h kx fun x dx H1 H' M1 e1 so1 S1 rx h1 kx1 => goE so1 S1 h1 kx1 fun y dy H2 H'' M2 e2 so2 S2 ry h2 kx2 => z H2 H'' M2 x y dx dy q Q S2 (rx.mono e2) ry h2 (k.mono (e1.trans e2))
theorem pd_op {op : Operator} {rd : RD2} {a b : Expr} {da db : DE} {pos : Pos} (ho : OpD X (binaryOp op) rd) (ha : PD X W a da) (hb : PD X W b db) : PD X W (.BinOp a op b pos) (dOp rd da db) := by
  obtain ⟨r, o, z⟩ := ho
  exact peImp (pe_op o ha hb) (lift_op z)
theorem pd_cmp {op : CmpOp} {rd : RD2} {a b : Expr} {da db : DE} {pos : Pos} (ho : OpD X (compareOp op) rd) (ha : PD X W a da) (hb : PD X W b db) (hm : behindInMarks op b = false) : PD X W (.Compare a [op] [b] pos) (dOp rd da db) := by
  obtain ⟨r, o, z⟩ := ho
  exact peImp (pe_cmpR o ha hb hm) (lift_op z)
def UnD (X : Cx) (f : Value → Sem Value) (rd : RD1) : Prop := ∃ r, UnR X f r ∧ ∀ H0 H M x dx q Q, SD X.K H0 H M → Dn X.K H0 x dx → rd dx M q → KQ X.K H0 q Q → r x H Q
@[reducible] def dUn (rd : RD1) (da : DE) : DE := fun env M q E => da env M (fun x M1 => rd x M1 q) E
theorem pd_un {op : UnaryOp} {rd : RD1} {a : Expr} {da : DE} {pos : Pos} (ho : UnD X (unaryOp op) rd) (ha : PD X W a da) : PD X W (.UnaryOp op a pos) (dUn rd da) := by
  obtain ⟨r, o, z⟩ := ho
  exact peImp (pe_un o ha) fun σ H Q ⟨env, M, q, E, H0, so, S, h, k, kx⟩ => goE so S h kx fun x dx H1 H' M1 e1 so1 S1 rx h1 kx1 => z H1 H' M1 x dx q Q S1 rx h1 (k.mono e1)
def CallD (X : Cx) (f : Value) (rd : RDL) : Prop := ∃ r, CallR X f r ∧ ∀ H0 H M xs ds q Q, SD X.K H0 H M → DnL X.K H0 xs ds → rd ds M q → KQ X.K H0 q Q → r xs H Q
@[reducible] def dCB (rd : RDL) (da : DA) : DE := fun env M q E => da env M (fun xs M1 => rd xs M1 q) E
theorem CallD.or {f : Value} {a b : RDL} (h : CallD X f a) (h' : CallD X f b) : CallD X f (fun x M q => a x M q ∨ b x M q) := by
  obtain ⟨r, o, z⟩ := h
  obtain ⟨r', o', z'⟩ := h'
  refine ⟨fun x H Q => r x H Q ∨ r' x H Q, fun pins s σ H x us Q I rx w => ?_, fun H0 H M x dx q Q S hx w k => w.elim (fun w => .inl (z H0 H M x dx q Q S hx w k)) fun w => .inr (z' H0 H M x dx q Q S hx w k)⟩
  rcases w with w | w
  · exact o pins s σ H x us Q I rx w
  · exact o' pins s σ H x us Q I rx w
theorem CallD.imp {f : Value} {a b : RDL} (h : CallD X f a) (i : ∀ x M q, b x M q → a x M q) : CallD X f b := by
  obtain ⟨r, o, z⟩ := h
  exact ⟨r, o, fun H0 H M x dx q Q S hx w k => z H0 H M x dx q Q S hx (i _ _ _ w) k⟩
end
end DL
set_option maxRecDepth 100000
set_option maxHeartbeats 4000000
namespace DL
open PySem PySem.Spec PyProof.Rows L2
mutual
def toPy : D → Option PyData
  | .non => some .none
  | .bl b => some (.bool b)
  | .int i => some (.int i)
  | .str x => some (.str x)
  | .lst xs => (toPys xs).map .list
  | .lsf xs => (toPys xs).map .list
  | .tup xs => (toPys xs).map .tuple
  | .ty _ => none
  | .dic _ _ => none
  | .ins _ _ _ => none
  | .cel _ => none
def toPys : List D → Option (List PyData)
  | [] => some []
  | d :: ds => match toPy d, toPys ds with
    | some p, some ps => some (p :: ps)
    | _, _ => none
end
def pyOf (M : Mem) : D → Option PyData
  | .cel c => match celL M c with
    | some xs => (toPys xs).map .list
    | none => none
  | d => toPy d
section
variable {K : PySem.W.Frag} {H0 H : Hp} {M : Mem}
theorem omap {α β : Type} {f : α → β} {o : Option α} {b : β} (h : o.map f = some b) : ∃ a, o = some a ∧ b = f a := by
  cases o with
  | none => cases h
  | some a => exact ⟨a, rfl, (Option.some.inj h).symm⟩
mutual
theorem toPy_dp : ∀ (d : D) {v : V} {p : PyData}, Dn K H v d → toPy d = some p → Dp K H v p
  | .non, _, _, .non, e => by cases e; exact .non
  | .bl b, _, _, .bl _, e => by cases e; exact .bl _
  | .int b, _, _, .int _, e => by cases e; exact .int _
  | .str b, _, _, .str _, e => by cases e; exact .str _
  | .lst xs, _, _, .lst h r, e => by
    obtain ⟨ps, e1, rfl⟩ := omap (show (toPys xs).map PyData.list = _ from e)
    exact .lst (SqL.of h) (toPys_dp xs r e1)
  | .lsf xs, _, _, .lsf h r, e => by
    obtain ⟨ps, e1, rfl⟩ := omap (show (toPys xs).map PyData.list = _ from e)
    exact .lst h (toPys_dp xs r e1)
  | .tup xs, _, _, .tup h r, e => by
    obtain ⟨ps, e1, rfl⟩ := omap (show (toPys xs).map PyData.tuple = _ from e)
    exact .tup h (toPys_dp xs r e1)
  | .ty _, _, _, _, e => by cases e
  | .dic _ _, _, _, _, e => by cases e
  | .ins _ _ _, _, _, _, e => by cases e
  | .cel _, _, _, _, e => by cases e
theorem toPys_dp : ∀ (ds : List D) {vs : List V} {ps : List PyData}, DnL K H vs ds → toPys ds = some ps → DpAll K H vs ps
  | [], _, _, .nil, e => by cases e; exact .nil
  | d :: ds, _, _, .cons h r, e => by
    have e' : (match toPy d, toPys ds with | some p, some ps => some (p :: ps) | _, _ => none) = some _ := e
    cases e1 : toPy d with
    | none => rw [e1] at e'; cases e'
    | some p =>
      cases e2 : toPys ds with
      | none => rw [e1, e2] at e'; cases e'
      | some ps =>
        rw [e1, e2] at e'
        cases e'
        exact .cons (toPy_dp d h e1) (toPys_dp ds r e2)
end
theorem SD.py (S : SD K H0 H M) {v : V} {d : D} {p : PyData} (h : Dn K H0 v d) (e : pyOf M d = some p) : Dp K H v p := by
  cases d with
  | cel c =>
    cases h with
    | cel =>
      have e' : (match celL M c with | some xs => (toPys xs).map PyData.list | none => none) = some p := e
      cases q : celL M c with
      | none => rw [q] at e'; cases e'
      | some xs =>
        rw [q] at e'
        obtain ⟨ps, e1, rfl⟩ := omap e'
        obtain ⟨_, vs, e2, r⟩ := S.cell c xs (celL_eq q)
        exact .lst (SqL.of e2) (toPys_dp xs (r.mono S.ex) e1)
  | _ => exact toPy_dp _ (h.mono S.ex) e
end
section
variable {X : Cx} {W : WX}
/-- from a rule whose answer is a value told at once -/
theorem KQ.here {K : PySem.W.Frag} {H0 H : Hp} {M : Mem} {q : QD} {Q : VK} {v : V} {d : D} (k : KQ K H0 q Q) (S : SD K H0 H M) (r : Dn K H0 v d) (h : q d M) : Q v H := k v d H0 H M (Ext.refl H0) S r h
theorem KQ.newL {K : PySem.W.Frag} {H0 H : Hp} {M : Mem} {q : QD} {Q : VK} {vs : List V} {ds : List D} (k : KQ K H0 q Q) (S : SD K H0 H M) (r : DnL K H0 vs ds) (h : q (.lst ds) M) : ∀ p, H p = none → Q (.ref p) (upd H p (.lst vs)) := fun p hp =>
  k (.ref p) (.lst ds) (upd H0 p (.lst vs)) _ M (Ext.add (S.fresh hp).1) (S.new hp) (.lst upd_same (r.mono (Ext.add (S.fresh hp).1))) h
theorem KQ.newT {K : PySem.W.Frag} {H0 H : Hp} {M : Mem} {q : QD} {Q : VK} {vs : List V} {ds : List D} (k : KQ K H0 q Q) (S : SD K H0 H M) (r : DnL K H0 vs ds) (h : q (.tup ds) M) : ∀ p, H p = none → Q (.ref p) (upd H p (.tup vs)) := fun p hp =>
  k (.ref p) (.tup ds) (upd H0 p (.tup vs)) _ M (Ext.add (S.fresh hp).1) (S.new hp) (.tup (SqT.of upd_same) (r.mono (Ext.add (S.fresh hp).1))) h
theorem KQ.newC {K : PySem.W.Frag} {H0 H : Hp} {M : Mem} {q : QD} {Q : VK} {vs : List V} {ds : List D} (k : KQ K H0 q Q) (S : SD K H0 H M) (r : DnL K H0 vs ds) (h : ∀ a, M a = none → q (.cel a) (mset M a (.ls ds))) : ∀ p, H p = none → Q (.ref p) (upd H p (.lst vs)) := fun p hp =>
  k (.ref p) (.cel p) H0 _ _ (Ext.refl H0) (S.newCell hp r) (.cel p) (h p (S.fresh hp).2)
/-- ints: what is asked, the answer -/
def rdI (C : Int → Int → Prop) (g : Int → Int → D) : RD2 := fun x y M q => match x, y with
  | .int i, .int j => C i j ∧ q (g i j) M
  | _, _ => False
theorem opd_int {f : Value → Value → Sem Value} {C : Int → Int → Prop} {g : Int → Int → V} {gd : Int → Int → D} (h : OpR X f (rI C g)) (hg : ∀ H i j, Dn X.K H (g i j) (gd i j)) : OpD X f (rdI C gd) :=
  ⟨_, h, fun H0 H M x y dx dy q Q S hx hy w k => by
    cases dx <;> cases dy <;> try exact False.elim w
    cases hx; cases hy
    obtain ⟨c, w⟩ := w
    exact ⟨_, _, rfl, rfl, c, k.here S (hg _ _ _) w⟩⟩
theorem opd_int0 {f : Value → Value → Sem Value} {g : Int → Int → V} {gd : Int → Int → D} (h : OpR X f (rI0 g)) (hg : ∀ H i j, Dn X.K H (g i j) (gd i j)) : OpD X f (rdI (fun _ _ => True) gd) :=
  ⟨_, h, fun H0 H M x y dx dy q Q S hx hy w k => by
    cases dx <;> cases dy <;> try exact False.elim w
    cases hx; cases hy
    exact ⟨_, _, rfl, rfl, k.here S (hg _ _ _) w.2⟩⟩
def rdAdd : RD2 := fun x y M q => match x, y with
  | .int i, .int j => q (.int (i + j)) M
  | .str a, .str b => a.length + b.length ≤ sizeLine ∧ q (.str (a ++ b)) M
  | .tup a, .tup b => a.length + b.length ≤ sizeLine ∧ q (.tup (a ++ b)) M
  | x, y => ∃ a b, lstOf M x = some a ∧ lstOf M y = some b ∧ a.length + b.length ≤ sizeLine ∧ q (.lst (a ++ b)) M
def rdAddS : RD2 := fun x y M q => match x, y with
  | .str a, .str b => a.length + b.length ≤ sizeLine ∧ q (.str (a ++ b)) M
  | _, _ => False
def rdAddT : RD2 := fun x y M q => match x, y with
  | .tup a, .tup b => a.length + b.length ≤ sizeLine ∧ q (.tup (a ++ b)) M
  | _, _ => False
def rdAddL : RD2 := fun x y M q => ∃ a b, lstOf M x = some a ∧ lstOf M y = some b ∧ a.length + b.length ≤ sizeLine ∧ q (.lst (a ++ b)) M
theorem opd_addS : OpD X (binaryOp .Add) rdAddS := ⟨_, op_add_str, fun H0 H M x y dx dy q Q S hx hy w k => by
  cases dx <;> cases dy <;> try exact False.elim w
  cases hx; cases hy
  exact ⟨_, _, rfl, rfl, w.1, k.here S (.str _) w.2⟩⟩
theorem opd_addT : OpD X (binaryOp .Add) rdAddT := ⟨_, op_catA, fun H0 H M x y dx dy q Q S hx hy w k => by
  cases dx <;> cases dy <;> try exact False.elim w
  cases hx with
  | tup hx rx =>
  cases hy with
  | tup hy ry =>
  obtain ⟨c, w⟩ := w
  refine ⟨_, _, _, _, rfl, rfl, S.ex.sqT hx, S.ex.sqT hy, by rw [rx.length, ry.length]; exact c, fun e => ?_, fun _ e => ?_, fun _ _ => k.newT S (rx.app ry) w⟩
  · subst e; cases rx; exact k.here S (.tup hy ry) w
  · subst e; cases ry; rw [List.append_nil] at w; exact k.here S (.tup hx rx) w⟩
theorem opd_addL : OpD X (binaryOp .Add) rdAddL := ⟨_, op_cat, fun H0 H M x y dx dy q Q S hx hy w k => by
  obtain ⟨a, b, ea, eb, c, w⟩ := w
  obtain ⟨p, vs, rfl, hp, rp⟩ := S.lst hx ea
  obtain ⟨p', vs', rfl, hp', rp'⟩ := S.lst hy eb
  exact ⟨_, _, _, _, rfl, rfl, hp, hp', by rw [rp.length, rp'.length]; exact c, k.newL S (rp.app rp') w⟩⟩
theorem opd_add : OpD X (binaryOp .Add) rdAdd := by
  refine ((opd_int0 (g := fun i j => .int (i + j)) (gd := fun i j => .int (i + j)) op_add fun _ _ _ => .int _).or (opd_addS.or (opd_addT.or opd_addL))).imp fun x y M q h => ?_
  cases x <;> cases y <;> first
    | exact .inl ⟨trivial, h⟩
    | exact .inr (.inl h)
    | exact .inr (.inr (.inl h))
    | exact .inr (.inr (.inr h))
def rdSub : RD2 := rdI (fun _ _ => True) fun i j => .int (i - j)
theorem opd_sub : OpD X (binaryOp .Sub) rdSub := opd_int0 op_sub fun _ _ _ => .int _
/-- // and % by a positive number; the divisor of // below 2 ^ 30 -/
def rdDiv : RD2 := rdI CDiv fun i j => .int (i / j)
theorem opd_div : OpD X (binaryOp .FloorDiv) rdDiv := opd_int op_fdiv fun _ _ _ => .int _
def rdMod : RD2 := rdI (fun _ j => 0 < j) fun i j => .int (i % j)
theorem opd_mod : OpD X (binaryOp .Mod) rdMod := opd_int op_mod fun _ _ _ => .int _
def rdPow : RD2 := rdI CPow fun i j => .int (i ^ j.toNat)
theorem opd_pow : OpD X (binaryOp .Pow) rdPow := opd_int op_pow fun _ _ _ => .int _
/-- products: both sides' bits together bounded -/
def CMulB (i j : Int) : Prop := IntMulOk i j
theorem op_mulB : OpR X (binaryOp .Mult) (rI CMulB fun i j => .int (i * j)) := fun pins s σ H x y v u Q I rx ry h => by
  obtain ⟨i, j, rfl, rfl, c, q⟩ := h
  obtain ⟨t, rfl⟩ := rx
  obtain ⟨t', rfl⟩ := ry
  exact mul_int ⟨.int (i * j), H, I.tok _, ⟨_, rfl⟩, q⟩ c
def rdMul : RD2 := fun x y M q => match x, y with
  | .int i, .int j => CMulB i j ∧ q (.int (i * j)) M
  | x, .int k => ∃ a, lstOf M x = some a ∧ (-(2 ^ 63) ≤ k ∧ k < 2 ^ 63) ∧ a.length * k.toNat ≤ sizeLine ∧ q (.lst (List.replicate k.toNat a).flatten) M
  | _, _ => False
def rdRep : RD2 := fun x y M q => match y with
  | .int k => ∃ a, lstOf M x = some a ∧ (-(2 ^ 63) ≤ k ∧ k < 2 ^ 63) ∧ a.length * k.toNat ≤ sizeLine ∧ q (.lst (List.replicate k.toNat a).flatten) M
  | _ => False
theorem opd_rep : OpD X (binaryOp .Mult) rdRep := ⟨_, op_rep, fun H0 H M x y dx dy q Q S hx hy w k => by
  cases dy <;> try exact False.elim w
  obtain ⟨a, ea, c, c2, w⟩ := w
  obtain ⟨p, vs, rfl, hp, rp⟩ := S.lst hx ea
  cases hy
  exact ⟨_, _, _, rfl, rfl, hp, c.1, c.2, by rw [rp.length]; exact c2, k.newL S (rp.rep _) w⟩⟩
theorem opd_mul : OpD X (binaryOp .Mult) rdMul := by
  refine ((opd_int (g := fun i j => .int (i * j)) (gd := fun i j => .int (i * j)) op_mulB fun _ _ _ => .int _).or opd_rep).imp fun x y M q h => ?_
  cases x <;> cases y <;> first
    | exact .inl h
    | exact .inr h
    | exact False.elim h
def rdLt : RD2 := rdI (fun _ _ => True) fun i j => .bl (decide (i < j))
def rdLe : RD2 := rdI (fun _ _ => True) fun i j => .bl (decide (i ≤ j))
def rdGt : RD2 := rdI (fun _ _ => True) fun i j => .bl (decide (j < i))
def rdGe : RD2 := rdI (fun _ _ => True) fun i j => .bl (decide (j ≤ i))
theorem opd_lt : OpD X (compareOp .Lt) rdLt := opd_int0 op_lt fun _ _ _ => .bl _
theorem opd_le : OpD X (compareOp .LtE) rdLe := opd_int0 op_le fun _ _ _ => .bl _
theorem opd_gt : OpD X (compareOp .Gt) rdGt := opd_int0 op_gt fun _ _ _ => .bl _
theorem opd_ge : OpD X (compareOp .GtE) rdGe := opd_int0 op_ge fun _ _ _ => .bl _
/-- == != of plain data -/
def rdEqP : RD2 := fun x y M q => ∃ a b, pyOf M x = some a ∧ pyOf M y = some b ∧ SeqAt.shaped a = true ∧ SeqAt.shaped b = true ∧ q (.bl (PyData.eqv a b)) M
def rdNeP : RD2 := fun x y M q => ∃ a b, pyOf M x = some a ∧ pyOf M y = some b ∧ SeqAt.shaped a = true ∧ SeqAt.shaped b = true ∧ q (.bl (!PyData.eqv a b)) M
theorem opd_eqP (hu : X.A.units + 64 < cLine) : OpD X (compareOp .Eq) rdEqP := ⟨_, op_eqD hu, fun H0 H M x y dx dy q Q S hx hy w k => by
  obtain ⟨a, b, ea, eb, sa, sb, w⟩ := w
  exact ⟨a, b, S.py hx ea, S.py hy eb, sa, sb, k.here S (.bl _) w⟩⟩
theorem opd_neP (hu : X.A.units + 64 < cLine) : OpD X (compareOp .NotEq) rdNeP := ⟨_, op_neD hu, fun H0 H M x y dx dy q Q S hx hy w k => by
  obtain ⟨a, b, ea, eb, sa, sb, w⟩ := w
  exact ⟨a, b, S.py hx ea, S.py hy eb, sa, sb, k.here S (.bl _) w⟩⟩
def rdEqS : RD2 := fun x y M q => ∃ i j : Str, x = .str i ∧ y = .str j ∧ q (.bl (decide (i = j))) M
def rdNeS : RD2 := fun x y M q => ∃ i j : Str, x = .str i ∧ y = .str j ∧ q (.bl (!decide (i = j))) M
theorem dec_str {i j : Str} : decide (V.str i = V.str j) = decide (i = j) := by
  by_cases e : i = j
  · subst e; simp
  · rw [decide_eq_false e, decide_eq_false fun z => e (V.str.inj z)]
theorem opd_eqS : OpD X (compareOp .Eq) rdEqS := ⟨_, op_eq, fun H0 H M x y dx dy q Q S hx hy w k => by
  obtain ⟨i, j, rfl, rfl, w⟩ := w
  cases hx; cases hy
  exact ⟨rfl, by rw [dec_str]; exact k.here S (.bl _) w⟩⟩
theorem opd_neS : OpD X (compareOp .NotEq) rdNeS := ⟨_, op_ne, fun H0 H M x y dx dy q Q S hx hy w k => by
  obtain ⟨i, j, rfl, rfl, w⟩ := w
  cases hx; cases hy
  exact ⟨rfl, by rw [dec_str]; exact k.here S (.bl _) w⟩⟩
def rdEq : RD2 := fun x y M q => rdEqP x y M q ∨ rdEqS x y M q
def rdNe : RD2 := fun x y M q => rdNeP x y M q ∨ rdNeS x y M q
theorem opd_eq (hu : X.A.units + 64 < cLine) : OpD X (compareOp .Eq) rdEq := (opd_eqP hu).or opd_eqS
theorem opd_ne (hu : X.A.units + 64 < cLine) : OpD X (compareOp .NotEq) rdNe := (opd_neP hu).or opd_neS
def rdNeg : RD1 := fun x M q => match x with
  | .int i => q (.int (-i)) M
  | _ => False
theorem und_neg : UnD X (unaryOp .USub) rdNeg := ⟨_, un_neg, fun H0 H M x dx q Q S hx w k => by
  cases dx <;> try exact False.elim w
  cases hx
  exact ⟨_, rfl, k.here S (.int _) w⟩⟩
end
end DL
set_option maxRecDepth 100000
set_option maxHeartbeats 4000000
namespace DL
open PySem PySem.Spec PyProof.Rows L2
def flat : D → Option V
  | .non => some .non
  | .bl b => some (.bl b)
  | .int i => some (.int i)
  | .str x => some (.str x)
  | _ => none
def flats : List D → Option (List V)
  | [] => some []
  | d :: ds => match flat d, flats ds with
    | some v, some vs => some (v :: vs)
    | _, _ => none
section
variable {K : PySem.W.Frag} {H0 H : Hp} {M : Mem}
theorem flat_dn {v v' : V} {d : D} (h : Dn K H v d) (e : flat d = some v') : v = v' ∧ flatV v = true := by
  cases h <;> first
    | (cases e; exact ⟨rfl, rfl⟩)
    | cases e
theorem flats_dn : ∀ {ds : List D} {vs ws : List V}, DnL K H vs ds → flats ds = some ws → vs = ws ∧ vs.all flatV = true
  | _, _, _, .nil, e => by cases e; exact ⟨rfl, rfl⟩
  | d :: ds, _, _, .cons h r, e => by
    have e' : (match flat d, flats ds with | some v, some vs => some (v :: vs) | _, _ => none) = some _ := e
    cases e1 : flat d with
    | none => rw [e1] at e'; cases e'
    | some p =>
      cases e2 : flats ds with
      | none => rw [e1, e2] at e'; cases e'
      | some ps =>
        rw [e1, e2] at e'
        cases e'
        obtain ⟨rfl, f1⟩ := flat_dn h e1
        obtain ⟨rfl, f2⟩ := flats_dn r e2
        exact ⟨rfl, by rw [List.all_cons, f1, f2] <;> rfl⟩
end
section
variable {X : Cx} {W : WX}
def rdInQ (neg : Bool) : RD2 := fun x y M q => ∃ xs v vs, seqOf M y = some xs ∧ flat x = some v ∧ flats xs = some vs ∧ q (.bl (if neg then !inV v vs else inV v vs)) M
def rdInC (neg : Bool) : RD2 := fun x y M q => match x, y with
  | .str a, .str z => ∃ c, a = ⟨#[c]⟩ ∧ q (.bl (if neg then !decide (c ∈ z.cps.toList) else decide (c ∈ z.cps.toList))) M
  | _, _ => False
def rdIn (neg : Bool) : RD2 := fun x y M q => match y with
  | .str z => rdInC neg x (.str z) M q
  | y => rdInQ neg x y M q
theorem inQ_ok {K : PySem.W.Frag} {neg : Bool} : ∀ H0 H M x y dx dy q Q, SD K H0 H M → Dn K H0 x dx → Dn K H0 y dy → rdInQ neg dx dy M q → KQ K H0 q Q → rIn K neg x y H Q := fun H0 H M x y dx dy q Q S hx hy w k => by
  obtain ⟨xs, v, vs, e1, e2, e3, w⟩ := w
  obtain ⟨a, ws, rfl, hs, r⟩ := S.seq hy e1
  obtain ⟨rfl, f1⟩ := flat_dn hx e2
  obtain ⟨rfl, f2⟩ := flats_dn r e3
  exact ⟨a, _, rfl, hs, f1, f2, k.here S (.bl _) w⟩
theorem opd_inQ : OpD X (compareOp .In) (rdInQ false) := ⟨_, op_in_seq, inQ_ok⟩
theorem opd_niQ : OpD X (compareOp .NotIn) (rdInQ true) := ⟨_, op_notIn_seq, inQ_ok⟩
theorem opd_inC : OpD X (compareOp .In) (rdInC false) := ⟨_, op_in_sign, fun H0 H M x y dx dy q Q S hx hy w k => by
  cases dx <;> cases dy <;> try exact False.elim w
  obtain ⟨c, rfl, w⟩ := w
  cases hx; cases hy
  exact ⟨c, _, rfl, rfl, k.here S (.bl _) w⟩⟩
theorem opd_niC : OpD X (compareOp .NotIn) (rdInC true) := ⟨_, op_notIn_sign, fun H0 H M x y dx dy q Q S hx hy w k => by
  cases dx <;> cases dy <;> try exact False.elim w
  obtain ⟨c, rfl, w⟩ := w
  cases hx; cases hy
  exact ⟨c, _, rfl, rfl, k.here S (.bl _) w⟩⟩
theorem opd_in : OpD X (compareOp .In) (rdIn false) := (opd_inC.or opd_inQ).imp fun x y M q h => by
  cases y <;> first
    | exact .inl h
    | exact .inr h
theorem opd_ni : OpD X (compareOp .NotIn) (rdIn true) := (opd_niC.or opd_niQ).imp fun x y M q h => by
  cases y <;> first
    | exact .inl h
    | exact .inr h
@[reducible] def dNil : DA := fun _ M q _ => q [] M
@[reducible] def dCons (de : DE) (da : DA) : DA := fun env M q E => de env M (fun x M1 => da env M1 (fun xs M2 => q (x :: xs) M2) E) E
theorem ad_nil : AD X W [] dNil := paImp pa_nil fun σ H Q ⟨env, M, q, E, H0, so, S, h, k, kx⟩ => k [] [] H0 H M (Ext.refl H0) S .nil h
theorem ad_cons {e : Expr} {es : List Expr} {de : DE} {da : DA} (he : PD X W e de) (hr : AD X W es da) (hs : starEach (e :: es) X.env = (false, eval e X.env) :: starEach es X.env := by rfl) : AD X W (e :: es) (dCons de da) :=
  paImp (pa_cons he hr hs) fun σ H Q ⟨env, M, q, E, H0, so, S, h, k, kx⟩ =>
    goE so S h kx fun x dx H1 H' M1 e1 so1 S1 rx h1 kx1 => goA so1 S1 h1 kx1 fun xs ds H2 H'' M2 e2 so2 S2 rs h2 kx2 => k _ _ H2 H'' M2 (e1.trans e2) S2 (.cons (rx.mono e2) rs) h2
/-- a value's truth -/
def truD (M : Mem) : D → Option Bool
  | .non => some false
  | .bl b => some b
  | .int i => some (i != 0)
  | .str y => if y.length ≤ 16777216 then some ((y.length : Int) != 0) else none
  | .lst xs => some (!xs.isEmpty)
  | .lsf xs => some (!xs.isEmpty)
  | .tup xs => some (!xs.isEmpty)
  | .cel c => (celL M c).map fun xs => !xs.isEmpty
  | .dic ks _ => some (!ks.isEmpty)
  | _ => none
theorem isE {K : PySem.W.Frag} {H : Hp} {vs : List V} {ds : List D} (r : DnL K H vs ds) : vs.isEmpty = ds.isEmpty := by cases r <;> rfl
theorem SD.tru {K : PySem.W.Frag} {H0 H : Hp} {M : Mem} (S : SD K H0 H M) {v : V} {d : D} {b : Bool} (h : Dn K H0 v d) (e : truD M d = some b) : TruV K v H b := by
  cases h with
  | non => cases e; rfl
  | bl => cases e; rfl
  | int => cases e; rfl
  | str y =>
    have e' : (if y.length ≤ 16777216 then some ((y.length : Int) != 0) else none) = some b := e
    by_cases c : y.length ≤ 16777216
    · rw [if_pos c] at e'; cases e'; exact ⟨by rw [sizeLine_eq]; exact c, rfl⟩
    · rw [if_neg c] at e'; cases e'
  | ty => cases e
  | cel c =>
    obtain ⟨xs, e1, rfl⟩ := omap (show (celL M c).map (fun xs => !xs.isEmpty) = some b from e)
    obtain ⟨_, vs, e2, r⟩ := S.cell c xs (celL_eq e1)
    exact .inl ⟨vs, SqL.of e2, by rw [isE r]⟩
  | lst h r => cases e; exact .inl ⟨_, SqL.of (S.ex _ _ h), by rw [isE r]⟩
  | lsf h r => cases e; exact .inl ⟨_, S.ex.sqL h, by rw [isE r]⟩
  | tup h r => cases e; exact .inr (.inl ⟨_, S.ex.sqT h, by rw [isE r]⟩)
  | dic h r =>
    cases e
    exact .inr (.inr ⟨_, S.ex _ _ h, by rw [List.isEmpty_map]⟩)
  | ins => cases e
@[reducible] def dTru (de : DE) : DT := fun env M q E => de env M (fun d M1 => ∃ b, truD M1 d = some b ∧ q b M1) E
theorem td_tru {e : Expr} {de : DE} (h : PD X W e de) (he : ∀ whole, isTrue e X.env whole = (do let v ← whole; standAt e.pos; holding [v] (truthy v)) := by intro _; rfl) : TD X W e (dTru de) :=
  ptImp (pt_truth h he) fun σ H Q ⟨env, M, q, E, H0, so, S, h, k, kx⟩ => goE so S h kx fun x dx H1 H' M1 e1 so1 S1 rx ⟨b, eb, w⟩ kx1 => ⟨b, S1.tru rx eb, k b H1 H' M1 e1 S1 w⟩
/-- a comparison as a test -/
@[reducible] def dTst (de : DE) : DT := fun env M q E => de env M (fun d M1 => ∃ b, d = .bl b ∧ q b M1) E
theorem lift_tst {K : PySem.W.Frag} {de : DE} {te : TE} (z : ∀ σ H Q, liftE K W de σ H Q → te σ H Q) : ∀ σ H Q, liftT K W (dTst de) σ H Q → tTest te σ H Q := fun σ H Q ⟨env, M, q, E, H0, so, S, h, k, kx⟩ =>
  z _ _ _ (goE so S h kx fun x dx H1 H' M1 e1 so1 S1 rx ⟨b, eb, w⟩ kx1 => by subst eb; exact ⟨b, rx.inv_bl, k b H1 H' M1 e1 S1 w⟩)
theorem td_cmp {op : CmpOp} {rd : RD2} {a b : Expr} {da db : DE} {pos : Pos} (ho : OpD X (compareOp op) rd) (ha : PD X W a da) (hb : PD X W b db) (hm : behindInMarks op b = false) : TD X W (.Compare a [op] [b] pos) (dTst (dOp rd da db)) := by
  obtain ⟨r, o, z⟩ := ho
  exact ptImp (pt_cmpR o ha hb hm) (lift_tst (lift_op z))
/-- x is None, is not None -/
def isNon : D → Bool
  | .non => true
  | _ => false
@[reducible] def dIsN (de : DE) : DE := fun env M q E => de env M (fun d M1 => q (.bl (isNon d)) M1) E
theorem isN_dn {K : PySem.W.Frag} {H : Hp} {v : V} {d : D} (h : Dn K H v d) : decide (v = .non) = isNon d := by
  cases h <;> first
    | exact decide_eq_true rfl
    | exact decide_eq_false (fun z => nomatch z)
theorem pc_isN' {a : Expr} {da : DE} {j pos'} (ha : PD X W a da) : PC X .Is a (.Constant .none j pos') (liftE X.K W (dIsN da)) := ⟨fun pins s σ H Q I ⟨env, M, q, E, H0, so, S, h, k, kx⟩ =>
  (pc_isN ha).run pins s σ H Q I (goE so S h kx fun x dx H1 H' M1 e1 so1 S1 rx w kx1 => by rw [isN_dn rx]; exact k _ _ H1 H' M1 e1 S1 (.bl _) w)⟩
theorem pd_isN {a : Expr} {da : DE} {j pos' pos} (ha : PD X W a da) : PD X W (.Compare a [.Is] [.Constant .none j pos'] pos) (dIsN da) := pe_cmp (pc_isN' ha)
/-- chains -/
@[reducible] def dChn (r r' : RD2) (da db dc : DE) : DE := fun env M q E => da env M (fun x M1 => db env M1 (fun y M2 => r x y M2 (fun z M3 => ∃ b, z = .bl b ∧ if b = true then dc env M3 (fun w M4 => r' y w M4 q) E else q (.bl false) M3)) E) E
theorem lift_chn {K : PySem.W.Frag} {rd rd' : RD2} {r r' : R2} {da db dc : DE} (z : ∀ H0 H M x y dx dy q Q, SD K H0 H M → Dn K H0 x dx → Dn K H0 y dy → rd dx dy M q → KQ K H0 q Q → r x y H Q)
    (z' : ∀ H0 H M x y dx dy q Q, SD K H0 H M → Dn K H0 x dx → Dn K H0 y dy → rd' dx dy M q → KQ K H0 q Q → r' x y H Q) : ∀ σ H Q, liftE K W (dChn rd rd' da db dc) σ H Q → tChain r r' (liftE K W da) (liftE K W db) (liftE K W dc) σ H Q := fun σ H Q ⟨env, M, q, E, H0, so, S, h, k, kx⟩ =>
  goE so S h kx fun x dx H1 H' M1 e1 so1 S1 rx h1 kx1 => goE so1 S1 h1 kx1 fun y dy H2 H'' M2 e2 so2 S2 ry h2 kx2 => z H2 H'' M2 x y dx dy _ _ S2 (rx.mono e2) ry h2 fun v d H3 H3' M3 e3 S3 rz ⟨b, eb, w⟩ => by
    subst eb
    refine ⟨b, rz.inv_bl, ?_⟩
    cases b with
    | true =>
      refine iteT ?_
      exact goE (so2.mono e3) S3 (show dc env M3 _ E from w) (kx2.mono e3) fun u du H4 H4' M4 e4 so4 S4 ru w4 kx4 => z' H4 H4' M4 y u dy du q Q S4 (ry.mono (e3.trans e4)) ru w4 (k.mono (((e1.trans e2).trans e3).trans e4))
    | false =>
      refine iteF ?_
      exact k _ _ H3 H3' M3 ((e1.trans e2).trans e3) S3 (.bl false) w
theorem pd_chn {op op' : CmpOp} {rd rd' : RD2} {a b c : Expr} {da db dc : DE} {pos : Pos} (ho : OpD X (compareOp op) rd) (ho' : OpD X (compareOp op') rd') (ha : PD X W a da) (hb : PD X W b db) (hc : PD X W c dc)
    (hm : lastMarks [op, op'] [b, c] = false := by with_unfolding_all rfl) : PD X W (.Compare a [op, op'] [b, c] pos) (dChn rd rd' da db dc) := by
  obtain ⟨r, o, z⟩ := ho
  obtain ⟨r', o', z'⟩ := ho'
  exact peImp (pe_chain o o' ha hb hc hm) (lift_chn z z')
theorem td_chn {op op' : CmpOp} {rd rd' : RD2} {a b c : Expr} {da db dc : DE} {pos : Pos} (ho : OpD X (compareOp op) rd) (ho' : OpD X (compareOp op') rd') (ha : PD X W a da) (hb : PD X W b db) (hc : PD X W c dc)
    (hm : lastMarks [op, op'] [b, c] = false := by with_unfolding_all rfl) : TD X W (.Compare a [op, op'] [b, c] pos) (dTst (dChn rd rd' da db dc)) := by
  obtain ⟨r, o, z⟩ := ho
  obtain ⟨r', o', z'⟩ := ho'
  exact ptImp (pt_chain o o' ha hb hc hm) (lift_tst (lift_chn z z'))
/-- and, or, not as tests -/
def WD (X : Cx) (W : WX) (e : Expr) (dt : DT) : Prop := PW X e (liftT X.K W dt)
@[reducible] def dAnd (a b : DT) : DT := fun env M q E => a env M (fun c M1 => if c = true then b env M1 q E else q false M1) E
@[reducible] def dOr (a b : DT) : DT := fun env M q E => a env M (fun c M1 => if c = true then q true M1 else b env M1 q E) E
@[reducible] def dNot (a : DT) : DT := fun env M q E => a env M (fun c M1 => q (!c) M1) E
theorem pwImp {e : Expr} {t t' : TT} (h : PW X e t) (i : ∀ σ H Q, t' σ H Q → t σ H Q) : PW X e t' := ⟨fun w pins s σ H Q I q => h.run w pins s σ H Q I (i σ H Q q)⟩
theorem lift_and {K : PySem.W.Frag} {a b : DT} : ∀ σ H Q, liftT K W (dAnd a b) σ H Q → tAnd (liftT K W a) (liftT K W b) σ H Q := fun σ H Q ⟨env, M, q, E, H0, so, S, h, k, kx⟩ =>
  goT so S h kx fun c H1 H' M1 e1 so1 S1 h1 kx1 => by
    cases c with
    | true => exact iteT ⟨env, M1, q, E, H1, so1, S1, h1, k.mono e1, kx1⟩
    | false => exact iteF (k false H1 H' M1 e1 S1 h1)
theorem lift_or {K : PySem.W.Frag} {a b : DT} : ∀ σ H Q, liftT K W (dOr a b) σ H Q → tOr (liftT K W a) (liftT K W b) σ H Q := fun σ H Q ⟨env, M, q, E, H0, so, S, h, k, kx⟩ =>
  goT so S h kx fun c H1 H' M1 e1 so1 S1 h1 kx1 => by
    cases c with
    | true => exact iteT (k true H1 H' M1 e1 S1 h1)
    | false => exact iteF ⟨env, M1, q, E, H1, so1, S1, h1, k.mono e1, kx1⟩
theorem wd_and1 {a : Expr} {da : DT} {pos : Pos} (h : TD X W a da) : WD X W (.BoolOp .And [a] pos) da := pw_and1 h
theorem wd_or1 {a : Expr} {da : DT} {pos : Pos} (h : TD X W a da) : WD X W (.BoolOp .Or [a] pos) da := pw_or1 h
theorem wd_and {a b : Expr} {rest : List Expr} {da db : DT} {pos : Pos} (h : TD X W a da) (h' : WD X W (.BoolOp .And (b :: rest) pos) db) : WD X W (.BoolOp .And (a :: b :: rest) pos) (dAnd da db) := pwImp (pw_and h h') lift_and
theorem wd_or {a b : Expr} {rest : List Expr} {da db : DT} {pos : Pos} (h : TD X W a da) (h' : WD X W (.BoolOp .Or (b :: rest) pos) db) : WD X W (.BoolOp .Or (a :: b :: rest) pos) (dOr da db) := pwImp (pw_or h h') lift_or
theorem td_w {e : Expr} {dt : DT} (h : WD X W e dt) : TD X W e dt := PW.pt h
theorem td_not {a : Expr} {da : DT} {pos : Pos} (h : TD X W a da) : TD X W (.UnaryOp .Not a pos) (dNot da) := ptImp (pt_not h) fun σ H Q ⟨env, M, q, E, H0, so, S, h, k, kx⟩ =>
  goT so S h kx fun c H1 H' M1 e1 so1 S1 h1 kx1 => k _ H1 H' M1 e1 S1 h1
/-- as values, all but the last True or False -/
@[reducible] def dAndV (a b : DE) : DE := fun env M q E => a env M (fun x M1 => ∃ c, x = .bl c ∧ if c = true then b env M1 q E else q (.bl false) M1) E
@[reducible] def dNotV (a : DE) : DE := fun env M q E => a env M (fun x M1 => ∃ c, x = .bl c ∧ q (.bl (!c)) M1) E
theorem pd_one {op} {a : Expr} {da : DE} {pos : Pos} (h : PD X W a da) : PD X W (.BoolOp op [a] pos) da := pe_one h
theorem pd_and {a b : Expr} {rest : List Expr} {da db : DE} {pos : Pos} (h : PD X W a da) (h' : PD X W (.BoolOp .And (b :: rest) pos) db) : PD X W (.BoolOp .And (a :: b :: rest) pos) (dAndV da db) :=
  peImp (pe_and h h') fun σ H Q ⟨env, M, q, E, H0, so, S, h, k, kx⟩ => goE so S h kx fun x dx H1 H' M1 e1 so1 S1 rx ⟨c, ec, w⟩ kx1 => by
    subst ec
    refine ⟨c, rx.inv_bl, ?_⟩
    cases c with
    | true => exact iteT ⟨env, M1, q, E, H1, so1, S1, w, k.mono e1, kx1⟩
    | false => exact iteF (k _ _ H1 H' M1 e1 S1 (.bl false) w)
theorem pd_not {a : Expr} {da : DE} {pos : Pos} (h : PD X W a da) : PD X W (.UnaryOp .Not a pos) (dNotV da) :=
  peImp (pe_not h) fun σ H Q ⟨env, M, q, E, H0, so, S, h, k, kx⟩ => goE so S h kx fun x dx H1 H' M1 e1 so1 S1 rx ⟨c, ec, w⟩ kx1 => by
    subst ec
    exact ⟨c, rx.inv_bl, k _ _ H1 H' M1 e1 S1 (.bl _) w⟩
@[reducible] def dIf (t : DT) (a b : DE) : DE := fun env M q E => t env M (fun c M1 => if c = true then a env M1 q E else b env M1 q E) E
theorem pd_if {c a b : Expr} {dt : DT} {da db : DE} {pos : Pos} (hc : TD X W c dt) (ha : PD X W a da) (hb : PD X W b db) : PD X W (.IfExp c a b pos) (dIf dt da db) :=
  peImp (pe_ifExp hc ha hb) fun σ H Q ⟨env, M, q, E, H0, so, S, h, k, kx⟩ => goT so S h kx fun c H1 H' M1 e1 so1 S1 h1 kx1 => by
    cases c with
    | true => exact iteT ⟨env, M1, q, E, H1, so1, S1, h1, k.mono e1, kx1⟩
    | false => exact iteF ⟨env, M1, q, E, H1, so1, S1, h1, k.mono e1, kx1⟩
@[reducible] def dTup (da : DA) : DE := fun env M q E => da env M (fun ds M1 => ds.length ≤ sizeLine ∧ q (.tup ds) M1) E
@[reducible] def dLst (da : DA) : DE := fun env M q E => da env M (fun ds M1 => ds.length ≤ sizeLine ∧ q (.lst ds) M1) E
/-- a list that will change -/
@[reducible] def dLstC (da : DA) : DE := fun env M q E => da env M (fun ds M1 => ds.length ≤ sizeLine ∧ ∀ a, M1 a = none → q (.cel a) (mset M1 a (.ls ds))) E
theorem pd_tup {es : List Expr} {da : DA} {x1 pos} (h : AD X W es da) : PD X W (.Tuple es x1 pos) (dTup da) := peImp (pe_tup h) fun σ H Q ⟨env, M, q, E, H0, so, S, h, k, kx⟩ =>
  goA so S h kx fun xs ds H1 H' M1 e1 so1 S1 rs ⟨z, w⟩ kx1 => ⟨by rw [rs.length]; exact z, (k.mono e1).newT S1 rs w⟩
theorem pd_lst {es : List Expr} {da : DA} {pos} (h : AD X W es da) : PD X W (.List es pos) (dLst da) := peImp (pe_lst h) fun σ H Q ⟨env, M, q, E, H0, so, S, h, k, kx⟩ =>
  goA so S h kx fun xs ds H1 H' M1 e1 so1 S1 rs ⟨z, w⟩ kx1 => ⟨by rw [rs.length]; exact z, (k.mono e1).newL S1 rs w⟩
theorem pd_lstC {es : List Expr} {da : DA} {pos} (h : AD X W es da) : PD X W (.List es pos) (dLstC da) := peImp (pe_lst h) fun σ H Q ⟨env, M, q, E, H0, so, S, h, k, kx⟩ =>
  goA so S h kx fun xs ds H1 H' M1 e1 so1 S1 rs ⟨z, w⟩ kx1 => ⟨by rw [rs.length]; exact z, (k.mono e1).newC S1 rs w⟩
theorem lift_CB {K : PySem.W.Frag} {rd : RDL} {r : List V → Hp → VK → Prop} {da : DA} (z : ∀ H0 H M xs ds q Q, SD K H0 H M → DnL K H0 xs ds → rd ds M q → KQ K H0 q Q → r xs H Q) : ∀ σ H Q, liftE K W (dCB rd da) σ H Q → tCB r (liftA K W da) σ H Q :=
  fun σ H Q ⟨env, M, q, E, H0, so, S, h, k, kx⟩ => goA so S h kx fun xs ds H1 H' M1 e1 so1 S1 rs w kx1 => z H1 H' M1 xs ds q Q S1 rs w (k.mono e1)
theorem pd_callB {x : Str} {p pos : Pos} {e : Expr} {es : List Expr} {da : DA} {id : String} {rd : RDL} (hc : CallD X (.builtin id) rd) (hg : Gl X x) (hm : X.mg x = none) (hv : bootBuiltins x = some (.builtin id)) (ha : AD X W (e :: es) da) (hn : x ≠ "__name__" := by decide) (hdb : (x == ("__debug__" : Str)) = false := by decide)
    (he : starEach (e :: es) X.env = (false, eval e X.env) :: starEach es X.env := by rfl) (hpl : (backTo pos (starEach es X.env)).any (·.1) = false := by rfl) : PD X W (.Call (.Name x p) (e :: es) [] pos) (dCB rd da) := by
  obtain ⟨r, o, z⟩ := hc
  exact peImp (pe_callB o hg hm hv ha hn hdb he hpl) (lift_CB z)
theorem pd_callTy {x : Str} {p pos : Pos} {e : Expr} {es : List Expr} {da : DA} {T : String} {rd : RDL} (hc : CallD X (.type T) rd) (hg : Gl X x) (hm : X.mg x = none) (hv : bootBuiltins x = some (.type T)) (ha : AD X W (e :: es) da) (hn : x ≠ "__name__" := by decide) (hdb : (x == ("__debug__" : Str)) = false := by decide)
    (he : starEach (e :: es) X.env = (false, eval e X.env) :: starEach es X.env := by rfl) (hpl : (backTo pos (starEach es X.env)).any (·.1) = false := by rfl) : PD X W (.Call (.Name x p) (e :: es) [] pos) (dCB rd da) := by
  obtain ⟨r, o, z⟩ := hc
  exact peImp (pe_callTy o hg hm hv ha hn hdb he hpl) (lift_CB z)
/-- len -/
def rdLen : RDL := fun ds M q => ∃ d, ds = [d] ∧ match d with
  | .str z => z.length ≤ sizeLine ∧ q (.int z.length) M
  | d => ∃ xs, seqOf M d = some xs ∧ q (.int xs.length) M
theorem dnl1 {K : PySem.W.Frag} {H : Hp} {vs : List V} {d : D} (h : DnL K H vs [d]) : ∃ v, vs = [v] ∧ Dn K H v d := by
  cases h with
  | cons a r => cases r; exact ⟨_, rfl, a⟩
theorem dnl2 {K : PySem.W.Frag} {H : Hp} {vs : List V} {d e : D} (h : DnL K H vs [d, e]) : ∃ v w, vs = [v, w] ∧ Dn K H v d ∧ Dn K H w e := by
  cases h with
  | cons a r => obtain ⟨w, rfl, b⟩ := dnl1 r; exact ⟨_, w, rfl, a, b⟩
theorem cd_lenQ : CallD X (.builtin "len") (fun ds M q => ∃ d xs, ds = [d] ∧ seqOf M d = some xs ∧ q (.int xs.length) M) := ⟨_, call_len_seq, fun H0 H M xs ds q Q S r w k => by
  obtain ⟨d, ys, rfl, e, w⟩ := w
  obtain ⟨v, rfl, rv⟩ := dnl1 r
  obtain ⟨a, vs, rfl, hs, rs⟩ := S.seq rv e
  exact ⟨a, vs, rfl, hs, by rw [rs.length]; exact k.here S (.int _) w⟩⟩
theorem cd_lenS : CallD X (.builtin "len") (fun ds M q => ∃ z, ds = [.str z] ∧ z.length ≤ sizeLine ∧ q (.int z.length) M) := ⟨_, call_len_str, fun H0 H M xs ds q Q S r w k => by
  obtain ⟨z, rfl, e, w⟩ := w
  obtain ⟨v, rfl, rv⟩ := dnl1 r
  cases rv
  exact ⟨z, rfl, e, k.here S (.int _) w⟩⟩
theorem cd_len : CallD X (.builtin "len") rdLen := (cd_lenS.or cd_lenQ).imp fun ds M q ⟨d, e, h⟩ => by
  subst e
  cases d <;> first
    | exact .inl ⟨_, rfl, h.1, h.2⟩
    | exact .inr ⟨_, h.choose, rfl, h.choose_spec.1, h.choose_spec.2⟩
/-- list(x), frozen or to be changed; tuple(x) -/
def rdList : RDL := fun ds M q => ∃ d xs, ds = [d] ∧ seqOf M d = some xs ∧ q (.lst xs) M
theorem cd_list : CallD X (.type "list") rdList := ⟨_, call_list_of, fun H0 H M xs ds q Q S r w k => by
  obtain ⟨d, ys, rfl, e, w⟩ := w
  obtain ⟨v, rfl, rv⟩ := dnl1 r
  obtain ⟨a, vs, rfl, hs, rs⟩ := S.seq rv e
  exact ⟨a, vs, rfl, hs, k.newL S rs w⟩⟩
def rdTuple : RDL := fun ds M q => ∃ d xs, ds = [d] ∧ seqOf M d = some xs ∧ q (.tup xs) M
theorem cd_tuple : CallD X (.type "tuple") rdTuple := ⟨_, call_tuple_of, fun H0 H M xs ds q Q S r w k => by
  obtain ⟨d, ys, rfl, e, w⟩ := w
  obtain ⟨v, rfl, rv⟩ := dnl1 r
  cases rv with
  | tup h rs => cases e; exact ⟨_, _, rfl, .inr ⟨S.ex.sqT h, k.here S (.tup h rs) w⟩⟩
  | lst h rs => cases e; exact ⟨_, _, rfl, .inl ⟨SqL.of (S.ex _ _ h), k.newT S rs w⟩⟩
  | lsf h rs => cases e; exact ⟨_, _, rfl, .inl ⟨S.ex.sqL h, k.newT S rs w⟩⟩
  | cel c =>
    obtain ⟨_, vs, e2, rs⟩ := S.cell c ys (celL_eq e)
    exact ⟨_, _, rfl, .inl ⟨SqL.of e2, k.newT S rs w⟩⟩
  | _ => cases e⟩
def rdAbs : RDL := fun ds M q => match ds with
  | [.int i] => q (.int (if i < 0 then -i else i)) M
  | _ => False
theorem cd_abs : CallD X (.builtin "abs") rdAbs := ⟨_, call_abs, fun H0 H M xs ds q Q S r w k => by
  unfold rdAbs at w
  split at w
  · obtain ⟨v, rfl, rv⟩ := dnl1 r
    cases rv
    exact ⟨_, rfl, k.here S (.int _) w⟩
  · exact False.elim w⟩
def rdInt : RDL := fun ds M q => match ds with
  | [.int i] => q (.int i) M
  | [.bl b] => q (.int (if b then 1 else 0)) M
  | _ => False
theorem cd_int : CallD X (.type "int") rdInt := ⟨_, call_int1, fun H0 H M xs ds q Q S r w k => by
  unfold rdInt at w
  split at w
  · obtain ⟨v, rfl, rv⟩ := dnl1 r
    cases rv
    exact .inl ⟨_, rfl, k.here S (.int _) w⟩
  · obtain ⟨v, rfl, rv⟩ := dnl1 r
    cases rv
    exact .inr ⟨_, rfl, k.here S (.int _) w⟩
  · exact False.elim w⟩
def rdMin2 : RDL := fun ds M q => match ds with
  | [.int i, .int j] => q (.int (if j < i then j else i)) M
  | _ => False
theorem cd_min2 (hc : X.calm = true) : CallD X (.builtin "min") rdMin2 := ⟨_, call_min2 hc, fun H0 H M xs ds q Q S r w k => by
  unfold rdMin2 at w
  split at w
  · obtain ⟨v, u, rfl, rv, ru⟩ := dnl2 r
    cases rv; cases ru
    exact ⟨_, _, rfl, k.here S (.int _) w⟩
  · exact False.elim w⟩
def rdMax2 : RDL := fun ds M q => match ds with
  | [.int i, .int j] => q (.int (if j > i then j else i)) M
  | _ => False
theorem cd_max2 (hc : X.calm = true) : CallD X (.builtin "max") rdMax2 := ⟨_, call_max2 hc, fun H0 H M xs ds q Q S r w k => by
  unfold rdMax2 at w
  split at w
  · obtain ⟨v, u, rfl, rv, ru⟩ := dnl2 r
    cases rv; cases ru
    exact ⟨_, _, rfl, k.here S (.int _) w⟩
  · exact False.elim w⟩
def rdDivmod : RDL := fun ds M q => match ds with
  | [.int i, .int j] => CDiv i j ∧ q (.tup [.int (i / j), .int (i % j)]) M
  | _ => False
theorem cd_divmod : CallD X (.builtin "divmod") rdDivmod := ⟨_, call_divmod, fun H0 H M xs ds q Q S r w k => by
  unfold rdDivmod at w
  split at w
  · obtain ⟨v, u, rfl, rv, ru⟩ := dnl2 r
    cases rv; cases ru
    exact ⟨_, _, rfl, w.1, k.newT S (.cons (.int _) (.cons (.int _) .nil)) w.2⟩
  · exact False.elim w⟩
/-- all, any of a list of bools -/
def bls : List D → Option (List Bool)
  | [] => some []
  | .bl b :: ds => (bls ds).map (b :: ·)
  | _ => none
theorem bls_dn {K : PySem.W.Frag} {H : Hp} : ∀ {ds : List D} {vs : List V} {bs : List Bool}, DnL K H vs ds → bls ds = some bs → vs = bs.map V.bl
  | _, _, _, .nil, e => by cases e; rfl
  | _, _, _, .cons (d := .bl b) h r, e => by
    obtain ⟨cs, e1, rfl⟩ := omap (show (bls _).map (b :: ·) = some _ from e)
    rw [h.inv_bl, bls_dn r e1]; rfl
  | _, _, _, .cons (d := .non) _ _, e | _, _, _, .cons (d := .int _) _ _, e | _, _, _, .cons (d := .str _) _ _, e | _, _, _, .cons (d := .ty _) _ _, e | _, _, _, .cons (d := .lst _) _ _, e
  | _, _, _, .cons (d := .lsf _) _ _, e | _, _, _, .cons (d := .tup _) _ _, e | _, _, _, .cons (d := .dic _ _) _ _, e | _, _, _, .cons (d := .ins _ _ _) _ _, e | _, _, _, .cons (d := .cel _) _ _, e => by cases e
def rdAll : RDL := fun ds M q => ∃ d xs bs, ds = [d] ∧ (lstOf M d = some xs) ∧ bls xs = some bs ∧ q (.bl (bs.all id)) M
theorem cd_all (hc : X.calm = true) : CallD X (.builtin "all") rdAll := ⟨_, cr_all hc, fun H0 H M xs ds q Q S r w k => by
  obtain ⟨d, ys, bs, rfl, e, eb, w⟩ := w
  obtain ⟨v, rfl, rv⟩ := dnl1 r
  obtain ⟨a, vs, rfl, hs, rs⟩ := S.lst rv e
  have z := bls_dn rs eb
  subst z
  exact ⟨a, bs, rfl, SqL.of hs, k.here S (.bl _) w⟩⟩
def rdAny : RDL := fun ds M q => ∃ d xs bs, ds = [d] ∧ (lstOf M d = some xs) ∧ bls xs = some bs ∧ q (.bl (bs.any id)) M
theorem cd_any (hc : X.calm = true) : CallD X (.builtin "any") rdAny := ⟨_, cr_any hc, fun H0 H M xs ds q Q S r w k => by
  obtain ⟨d, ys, bs, rfl, e, eb, w⟩ := w
  obtain ⟨v, rfl, rv⟩ := dnl1 r
  obtain ⟨a, vs, rfl, hs, rs⟩ := S.lst rv e
  have z := bls_dn rs eb
  subst z
  exact ⟨a, bs, rfl, SqL.of hs, k.here S (.bl _) w⟩⟩
/-- repr of plain data -/
def rReprD (K : PySem.W.Frag) : List V → Hp → VK → Prop := fun xs H Q => ∃ x d, xs = [x] ∧ Dp K H x d ∧ d.showable = true ∧ d.hasDict = false ∧ d.depth ≤ 100 ∧ d.shown.length ≤ sizeLine ∧ Q (.str d.shown) H
theorem call_reprD (hg : X.A.guards = some []) (hu : X.A.units + 200 < cLine) : CallR X (.builtin "repr") (rReprD X.K) := by
  intro pins s σ H xs us Q I r h
  obtain ⟨x, d, rfl, hd, hs, hh, hdp, hz, q⟩ := h
  obtain ⟨u, rfl, rx⟩ := vals1 r
  obtain ⟨as, rd⟩ := Dp.reads I d x u hd rx
  have fin : ∀ (h' : Heap) (t : Tok) (tk : Nat), (∀ b o, s.heap.get? b = some o → h'.get? b = some o) → EP X pins σ Q (.str d.shown t) { s with heap := h', toks := tk } := fun h' t tk k => ⟨.str d.shown, H, I.kept k, ⟨t, rfl⟩, q⟩
  cases hd with
  | non => cases rx; exact PySem.P.repr_of_none ⟨.str _, H, I.tok _, ⟨_, rfl⟩, q⟩
  | bl b => cases rx; exact PySem.P.repr_of_bool ⟨.str _, H, I.tok _, ⟨_, rfl⟩, q⟩
  | int i =>
    obtain ⟨t, rfl⟩ := rx
    exact PySem.P.repr_of_int (of_decide_eq_true hs) ⟨.str _, H, I.tok _, ⟨_, rfl⟩, q⟩
  | str z =>
    obtain ⟨t, rfl⟩ := rx
    exact PySem.P.repr_of_str (hsz := hz) ⟨.str _, H, I.tok _, ⟨_, rfl⟩, q⟩
  | lst _ _ => cases rx; exact repr_of_reads' rd hs (PyData.noDict_hsm hh) hg (by omega) (fun _ _ e => e) (fun h' t tk k => fin h' t tk k) hz
  | tup _ _ => cases rx; exact repr_of_reads' rd hs (PyData.noDict_hsm hh) hg (by omega) (fun _ _ e => e) (fun h' t tk k => fin h' t tk k) hz
/-- what may be shown -/
def showOk (p : PyData) : Prop := p.showable = true ∧ p.hasDict = false ∧ p.depth ≤ 100 ∧ p.shown.length ≤ sizeLine
def rdRepr : RDL := fun ds M q => ∃ d p, ds = [d] ∧ pyOf M d = some p ∧ showOk p ∧ q (.str p.shown) M
theorem cd_repr (hg : X.A.guards = some []) (hu : X.A.units + 200 < cLine) : CallD X (.builtin "repr") rdRepr := ⟨_, call_reprD hg hu, fun H0 H M xs ds q Q S r w k => by
  obtain ⟨d, p, rfl, e, ⟨z1, z2, z3, z4⟩, w⟩ := w
  obtain ⟨v, rfl, rv⟩ := dnl1 r
  exact ⟨v, p, rfl, S.py rv e, z1, z2, z3, z4, k.here S (.str _) w⟩⟩
end
section
variable {X : Cx} {W : WX}
def IxD (X : Cx) (rd : RD2) : Prop := ∃ r, IxR X r ∧ ∀ H0 H M x y dx dy q Q, SD X.K H0 H M → Dn X.K H0 x dx → Dn X.K H0 y dy → rd dx dy M q → KQ X.K H0 q Q → r x y H Q
theorem IxD.or {a b : RD2} (h : IxD X a) (h' : IxD X b) : IxD X (fun x y M q => a x y M q ∨ b x y M q) := by
  obtain ⟨r, o, z⟩ := h
  obtain ⟨r', o', z'⟩ := h'
  exact ⟨_, o.or o', fun H0 H M x y dx dy q Q S hx hy w k => w.elim (fun w => .inl (z H0 H M x y dx dy q Q S hx hy w k)) fun w => .inr (z' H0 H M x y dx dy q Q S hx hy w k)⟩
theorem IxD.imp {a b : RD2} (h : IxD X a) (i : ∀ x y M q, b x y M q → a x y M q) : IxD X b := by
  obtain ⟨r, o, z⟩ := h
  exact ⟨r, o, fun H0 H M x y dx dy q Q S hx hy w k => z H0 H M x y dx dy q Q S hx hy (i _ _ _ _ w) k⟩
theorem pd_ix {rd : RD2} {a b : Expr} {da db : DE} {pos : Pos} (ho : IxD X rd) (ha : PD X W a da) (hb : PD X W b db) (hs : PlainIx b) : PD X W (.Subscript a b pos) (dOp rd da db) := by
  obtain ⟨r, o, z⟩ := ho
  exact peImp (pe_ix o ha hb hs) (lift_op z)
theorem atI_dn {K : PySem.W.Frag} {H : Hp} {vs : List V} {ds : List D} {i : Int} {d : D} (r : DnL K H vs ds) (h : atI ds i = some d) : ∃ v, atI vs i = some v ∧ Dn K H v d := by
  unfold atI at h ⊢
  rw [r.length]
  cases e : ixN ds.length i with
  | none => rw [e] at h; cases h
  | some j =>
    rw [e] at h
    obtain ⟨v, e1, rv⟩ := r.get (show ds[j]? = some d from h)
    exact ⟨v, e1, rv⟩
def rdIxQ : RD2 := fun x y M q => ∃ xs i d, seqOf M x = some xs ∧ y = .int i ∧ atI xs i = some d ∧ q d M
def rdIxS : RD2 := fun x y M q => ∃ z i c, x = .str z ∧ y = .int i ∧ z.length ≤ sizeLine ∧ atI z.cps.toList i = some c ∧ q (.str ⟨#[c]⟩) M
def rdIx : RD2 := fun x y M q => match x with
  | .str z => rdIxS (.str z) y M q
  | x => rdIxQ x y M q
theorem ixd_q : IxD X rdIxQ := ⟨_, ix_list.or ix_tup, fun H0 H M x y dx dy q Q S hx hy w k => by
  obtain ⟨xs, i, d, e, rfl, ea, w⟩ := w
  cases hy
  obtain ⟨a, vs, rfl, hs, r⟩ := S.seq hx e
  obtain ⟨v, e1, rv⟩ := atI_dn r ea
  exact hs.elim (fun hs => .inl ⟨a, vs, i, v, rfl, rfl, hs, e1, k.here S rv w⟩) fun hs => .inr ⟨a, vs, i, v, rfl, rfl, hs, e1, k.here S rv w⟩⟩
theorem ixd_s : IxD X rdIxS := ⟨_, ix_str, fun H0 H M x y dx dy q Q S hx hy w k => by
  obtain ⟨z, i, c, rfl, rfl, z1, ea, w⟩ := w
  cases hx; cases hy
  exact ⟨z, i, c, rfl, rfl, z1, ea, k.here S (.str _) w⟩⟩
theorem ixd : IxD X rdIx := (ixd_s.or ixd_q).imp fun x y M q h => by
  cases x <;> first
    | exact .inl h
    | exact .inr h
/-- slices -/
abbrev DO := EnvD → Mem → (Option Int → Mem → Prop) → XD → Prop
def liftO (K : PySem.W.Frag) (W : WX) (dO : DO) : TO := fun σ H Q => ∃ env M q E H0, SlotOk K H0 σ env ∧ SD K H0 H M ∧ dO env M q E ∧ (∀ o H0' H' M', Ext H0 H0' → SD K H0' H' M' → q o M' → Q o H') ∧ KX K H0 E fun c d => W c d σ
def OD (X : Cx) (W : WX) (e : Option Expr) (d : DO) : Prop := PO X e (liftO X.K W d)
@[reducible] def dNo : DO := fun _ M q _ => q none M
@[reducible] def dPart (de : DE) : DO := fun env M q E => de env M (fun d M1 => ∃ i, d = .int i ∧ q (some i) M1) E
theorem poImp {e : Option Expr} {t t' : TO} (h : PO X e t) (i : ∀ σ H Q, t' σ H Q → t σ H Q) : PO X e t' := ⟨fun pins s σ H Q I q => h.run pins s σ H Q I (i σ H Q q)⟩
theorem od_no : OD X W none dNo := poImp po_none fun σ H Q ⟨env, M, q, E, H0, so, S, h, k, kx⟩ => k none H0 H M (Ext.refl H0) S h
theorem od_some {e : Expr} {de : DE} (h : PD X W e de) : OD X W (some e) (dPart de) := poImp (po_some h) fun σ H Q ⟨env, M, q, E, H0, so, S, h, k, kx⟩ =>
  goE so S h kx fun x dx H1 H' M1 e1 so1 S1 rx ⟨i, ei, w⟩ kx1 => by subst ei; exact ⟨i, rx.inv_int, k _ H1 H' M1 e1 S1 w⟩
theorem goO {K : PySem.W.Frag} {de : DO} {σ : L2.St} {H H0 : Hp} {env : EnvD} {M : Mem} {q : Option Int → Mem → Prop} {E : XD} {Q : Option Int → Hp → Prop} (so : SlotOk K H0 σ env) (S : SD K H0 H M) (h : de env M q E) (kx : KX K H0 E fun c d => W c d σ)
    (k : ∀ b H0' H' M', Ext H0 H0' → SlotOk K H0' σ env → SD K H0' H' M' → q b M' → (KX K H0' E fun c d => W c d σ) → Q b H') : liftO K W de σ H Q :=
  ⟨env, M, q, E, H0, so, S, h, fun b H0' H' M' e S' z => k b H0' H' M' e (so.mono e) S' z (kx.mono e), kx⟩
abbrev RDS := D → Option Int → Option Int → Mem → QD → Prop
def SlD (X : Cx) (rd : RDS) : Prop := ∃ r, SlR X r ∧ ∀ H0 H M x dx lo hi q Q, SD X.K H0 H M → Dn X.K H0 x dx → rd dx lo hi M q → KQ X.K H0 q Q → r x lo hi H Q
theorem SlD.or {a b : RDS} (h : SlD X a) (h' : SlD X b) : SlD X (fun x l u M q => a x l u M q ∨ b x l u M q) := by
  obtain ⟨r, o, z⟩ := h
  obtain ⟨r', o', z'⟩ := h'
  exact ⟨_, o.or o', fun H0 H M x dx l u q Q S hx w k => w.elim (fun w => .inl (z H0 H M x dx l u q Q S hx w k)) fun w => .inr (z' H0 H M x dx l u q Q S hx w k)⟩
theorem SlD.imp {a b : RDS} (h : SlD X a) (i : ∀ x l u M q, b x l u M q → a x l u M q) : SlD X b := by
  obtain ⟨r, o, z⟩ := h
  exact ⟨r, o, fun H0 H M x dx l u q Q S hx w k => z H0 H M x dx l u q Q S hx (i _ _ _ _ _ w) k⟩
@[reducible] def dSl (rd : RDS) (de : DE) (dl du : DO) : DE := fun env M q E => de env M (fun x M1 => dl env M1 (fun l M2 => du env M2 (fun u M3 => rd x l u M3 q) E) E) E
theorem pd_slice {rd : RDS} {e : Expr} {lo hi : Option Expr} {de : DE} {dl du : DO} {p2 pos : Pos} (hr : SlD X rd) (he : PD X W e de) (hl : OD X W lo dl) (hu : OD X W hi du) : PD X W (.Subscript e (.Slice lo hi none p2) pos) (dSl rd de dl du) := by
  obtain ⟨r, o, z⟩ := hr
  exact peImp (pe_slice o he hl hu) fun σ H Q ⟨env, M, q, E, H0, so, S, h, k, kx⟩ => goE so S h kx fun x dx H1 H' M1 e1 so1 S1 rx h1 kx1 => goO so1 S1 h1 kx1 fun l H2 H2' M2 e2 so2 S2 h2 kx2 => goO so2 S2 h2 kx2 fun u H3 H3' M3 e3 so3 S3 h3 kx3 =>
    z H3 H3' M3 x dx l u q Q S3 (rx.mono (e2.trans e3)) h3 (k.mono ((e1.trans e2).trans e3))
def cutD {α : Type} (xs : List α) (lo hi : Option Int) : List α := (xs.drop (HT.sIx xs.length 0 lo)).take (HT.sIx xs.length xs.length hi - HT.sIx xs.length 0 lo)
theorem cut_dn {K : PySem.W.Frag} {H : Hp} {vs : List V} {ds : List D} {lo hi : Option Int} (r : DnL K H vs ds) : DnL K H (cutV vs lo hi) (cutD ds lo hi) := by
  unfold cutV cutD
  rw [r.length]
  exact (r.drop _).take _
def rdSlL : RDS := fun x lo hi M q => ∃ xs, lsqOf M x = some xs ∧ q (.lst (cutD xs lo hi)) M
def rdSlT : RDS := fun x lo hi M q => ∃ xs, x = .tup xs ∧ q (.tup (cutD xs lo hi)) M
def rdSlS : RDS := fun x lo hi M q => ∃ z, x = .str z ∧ z.length ≤ sizeLine ∧ q (.str (cutS z lo hi)) M
def rdSl : RDS := fun x lo hi M q => match x with
  | .str z => z.length ≤ sizeLine ∧ q (.str (cutS z lo hi)) M
  | .tup xs => q (.tup (cutD xs lo hi)) M
  | x => ∃ xs, lsqOf M x = some xs ∧ q (.lst (cutD xs lo hi)) M
theorem sld_l : SlD X rdSlL := ⟨_, sl_list, fun H0 H M x dx lo hi q Q S hx w k => by
  obtain ⟨xs, e, w⟩ := w
  obtain ⟨a, vs, rfl, hs, r⟩ := S.lsq hx e
  exact ⟨a, vs, rfl, hs, k.newL S (cut_dn r) w⟩⟩
theorem whole_cut {α : Type} {xs : List α} {lo hi : Option Int} (h : HT.sIx xs.length 0 lo = 0 ∧ HT.sIx xs.length xs.length hi = xs.length) : cutD xs lo hi = xs := by
  unfold cutD
  rw [h.1, h.2]
  simp
theorem sld_t : SlD X rdSlT := ⟨_, sl_tupA, fun H0 H M x dx lo hi q Q S hx w k => by
  obtain ⟨xs, rfl, w⟩ := w
  cases hx with
  | tup h r =>
    refine ⟨_, _, rfl, S.ex.sqT h, fun c => ?_, fun _ => k.newT S (cut_dn r) w⟩
    rw [r.length] at c
    rw [whole_cut c] at w
    exact k.here S (.tup h r) w⟩
theorem sld_s : SlD X rdSlS := ⟨_, sl_str, fun H0 H M x dx lo hi q Q S hx w k => by
  obtain ⟨z, rfl, z1, w⟩ := w
  cases hx
  exact ⟨_, rfl, z1, k.here S (.str _) w⟩⟩
theorem sld : SlD X rdSl := (sld_l.or (sld_t.or sld_s)).imp fun x l u M q h => by
  cases x <;> first
    | exact .inr (.inr ⟨_, rfl, h.1, h.2⟩)
    | exact .inr (.inl ⟨_, rfl, h⟩)
    | exact .inl h
end
end DL
set_option maxRecDepth 100000
set_option maxHeartbeats 4000000
namespace DL
open PySem PySem.Spec PyProof.Rows L2
structure ItOk (K : PySem.W.Frag) (H0 : Hp) (J : It) (items : List D) (ok : Mem → Prop) : Prop where
  go : ∀ H0' H M i d, Ext H0 H0' → SD K H0' H M → ok M → items[i]? = some d → J.go i H ∧ ∀ x H', J.yld i H x H' → ∃ H2, Ext H0' H2 ∧ SD K H2 H' M ∧ Dn K H2 x d
  stop : ∀ H0' H M i, Ext H0 H0' → SD K H0' H M → ok M → items.length ≤ i → J.stop i H
abbrev DI := EnvD → Mem → (List D → (Mem → Prop) → Mem → Prop) → XD → Prop
def liftI (K : PySem.W.Frag) (W : WX) (di : DI) : TI := fun σ H R => ∃ env M q E H0, SlotOk K H0 σ env ∧ SD K H0 H M ∧ di env M q E ∧
  (∀ J items ok H0' H' M', Ext H0 H0' → SD K H0' H' M' → ItOk K H0' J items ok → q items ok M' → R J H') ∧ KX K H0 E fun c d => W c d σ
def ID (X : Cx) (W : WX) (tg it : Expr) (di : DI) : Prop := PI X tg it (liftI X.K W di)
theorem piImp {X : Cx} {tg e : Expr} {t t' : TI} (h : PI X tg e t) (i : ∀ σ H Q, t' σ H Q → t σ H Q) : PI X tg e t' := ⟨fun pins s σ H Q I q => h.run pins s σ H Q I (i σ H Q q)⟩
theorem goI {K : PySem.W.Frag} {W : WX} {di : DI} {σ : L2.St} {H H0 : Hp} {env : EnvD} {M : Mem} {q : List D → (Mem → Prop) → Mem → Prop} {E : XD} {R : It → Hp → Prop} (so : SlotOk K H0 σ env) (S : SD K H0 H M) (h : di env M q E) (kx : KX K H0 E fun c d => W c d σ)
    (k : ∀ J items ok H0' H' M', Ext H0 H0' → SlotOk K H0' σ env → SD K H0' H' M' → ItOk K H0' J items ok → q items ok M' → (KX K H0' E fun c d => W c d σ) → R J H') : liftI K W di σ H R :=
  ⟨env, M, q, E, H0, so, S, h, fun J items ok H0' H' M' e S' z w => k J items ok H0' H' M' e (so.mono e) S' z w (kx.mono e), kx⟩
/-- a list or a tuple -/
def iSeq (K : PySem.W.Frag) (tl : TE) : TI := fun σ H R => tl σ H fun x H1 => ∃ a, x = .ref a ∧ (((∃ xs, SqL K H1 a xs) ∧ R (Itl K a) H1) ∨ ((∃ xs, SqT K H1 a xs) ∧ R (Itt K a) H1))
section
variable {X : Cx} {W : WX} {tg : Expr}
theorem pi_seq {l : Expr} {tl : TE} (hl : PE X l tl) : PI X tg l (iSeq X.K tl) := by
  constructor
  intro pins s σ H R I h
  refine wpAny_mono (hl.run pins s σ H _ I h) (fun v s1 hh => ?_) fun _ _ z => z
  obtain ⟨x, H1, J1, rx, a, ex, cs⟩ := hh
  subst ex
  obtain rfl : v = Value.ref a := rx
  have fp : ∀ o : Obj, ∀ b ∈ [s1.heap.objs.size], FpOk X pins H1 b := fun o b hb => by
    obtain rfl : b = s1.heap.objs.size := by simpa using hb
    exact J1.fpOk (Nat.le_refl _) (J1.hok.fresh (Nat.le_refl _))
  rcases cs with ⟨⟨xs, hq⟩, q⟩ | ⟨⟨xs, hq⟩, q⟩
  · obtain ⟨its, _, pl, _⟩ := J1.list hq
    refine wpAny_pyIter_list pl.isList ⟨_, [_], _, _, H1, rfl, J1.kept (t' := s1.toks) (fun b o e => Heap.get?_push_of_some _ e), turn_list a _, ⟨_, Heap.get?_push_size _ rfl, rfl, rfl⟩, ?_, q⟩
    exact fp default
  · obtain ⟨its, _, pl, _⟩ := J1.tuple hq
    refine wpAny_pyIter_tuple (show s1.heap.IsTuple a its.toArray from pl) ⟨_, [_], _, _, H1, rfl, J1.kept (t' := s1.toks) (fun b o e => Heap.get?_push_of_some _ e), turn_tuple a _, ⟨_, Heap.get?_push_size _ rfl, rfl, rfl⟩, ?_, q⟩
    exact fp default
@[reducible] def dIter (de : DE) : DI := fun env M q E => de env M (fun d M1 => ∃ xs, seqOf M1 d = some xs ∧ q xs (fun M' => seqOf M' d = some xs) M1) E
theorem itl_ok {K : PySem.W.Frag} {H0 : Hp} {a : Addr} {d : D} {xs : List D} (hd : Dn K H0 (.ref a) d) (hl : ∀ H0' H M, Ext H0 H0' → SD K H0' H M → seqOf M d = some xs → ∃ vs, SqL K H a vs ∧ DnL K H0' vs xs) : ItOk K H0 (Itl K a) xs (fun M => seqOf M d = some xs) where
  go := fun H0' H M i y e S ok hi => by
    obtain ⟨vs, hs, r⟩ := hl H0' H M e S ok
    obtain ⟨v, hv, rv⟩ := r.get hi
    exact ⟨⟨vs, v, hs, hv⟩, fun x H' ⟨e1, e2⟩ => by
      subst e1
      have := e2 vs hs
      rw [hv] at this
      cases this
      exact ⟨H0', Ext.refl _, S, rv⟩⟩
  stop := fun H0' H M i e S ok hi => by
    obtain ⟨vs, hs, r⟩ := hl H0' H M e S ok
    exact ⟨vs, hs, by rw [r.length]; exact hi⟩
theorem itt_ok {K : PySem.W.Frag} {H0 : Hp} {a : Addr} {xs : List D} {vs : List V} (h : SqT K H0 a vs) (r : DnL K H0 vs xs) (ok : Mem → Prop) : ItOk K H0 (Itt K a) xs ok where
  go := fun H0' H M i y e S _ hi => by
    obtain ⟨v, hv, rv⟩ := r.get hi
    have hs : SqT K H a vs := (e.trans S.ex).sqT h
    exact ⟨⟨vs, v, hs, hv⟩, fun x H' ⟨e1, e2⟩ => by
      subst e1
      have := e2 vs hs
      rw [hv] at this
      cases this
      exact ⟨H0', Ext.refl _, S, rv.mono e⟩⟩
  stop := fun H0' H M i e S _ hi => ⟨vs, (e.trans S.ex).sqT h, by rw [r.length]; exact hi⟩
theorem id_seq {e : Expr} {de : DE} (h : PD X W e de) : ID X W tg e (dIter de) := piImp (pi_seq h) fun σ H R ⟨env, M, q, E, H0, so, S, h, k, kx⟩ =>
  goE so S h kx fun x dx H1 H' M1 e1 so1 S1 rx ⟨xs, ex, w⟩ kx1 => by
    have fin : ∀ J ok, ItOk X.K H1 J xs ok → q xs ok M1 → R J H' := fun J ok z w => k J xs ok H1 H' M1 e1 S1 z w
    cases rx with
    | lst hh r =>
      cases ex
      exact ⟨_, rfl, .inl ⟨⟨_, SqL.of (S1.ex _ _ hh)⟩, fin _ _ (itl_ok (.lst hh r) fun H0' H M e S _ => ⟨_, SqL.of (S.ex _ _ (e _ _ hh)), r.mono e⟩) w⟩⟩
    | lsf hh r =>
      cases ex
      exact ⟨_, rfl, .inl ⟨⟨_, S1.ex.sqL hh⟩, fin _ _ (itl_ok (.lsf hh r) fun H0' H M e S _ => ⟨_, (e.trans S.ex).sqL hh, r.mono e⟩) w⟩⟩
    | tup hh r =>
      cases ex
      exact ⟨_, rfl, .inr ⟨⟨_, S1.ex.sqT hh⟩, fin _ _ (itt_ok hh r _) w⟩⟩
    | cel c =>
      obtain ⟨_, vs, e2, r⟩ := S1.cell c xs (celL_eq ex)
      exact ⟨_, rfl, .inl ⟨⟨vs, SqL.of e2⟩, fin _ _ (itl_ok (.cel c) fun H0' H M e S ok => by
        obtain ⟨_, ws, e3, r3⟩ := S.cell c xs (celL_eq ok)
        exact ⟨ws, SqL.of e3, r3⟩) w⟩⟩
    | _ => cases ex
/-- range(n), range(a, b) -/
def rngD (lo : Int) (n : Nat) : List D := (List.range n).map fun i => D.int (lo + (i : Nat))
theorem itr_ok {K : PySem.W.Frag} {H0 : Hp} {lo : Int} {n : Nat} (ok : Mem → Prop) : ItOk K H0 (Itr lo n) (rngD lo n) ok where
  go := fun H0' H M i y e S _ hi => by
    unfold rngD at hi
    rw [List.getElem?_map] at hi
    obtain ⟨j, hj, rfl⟩ := omap hi
    have hj2 := List.getElem?_eq_some_iff.mp hj
    obtain ⟨h1, h2⟩ := hj2
    rw [List.length_range] at h1
    rw [List.getElem_range] at h2
    subst h2
    exact ⟨h1, fun x H' ⟨e1, e2⟩ => by subst e1 e2; exact ⟨H0', Ext.refl _, S, .int _⟩⟩
  stop := fun H0' H M i e S _ hi => by
    unfold rngD at hi
    rw [List.length_map, List.length_range] at hi
    exact hi
@[reducible] def dRng1 (da : DA) : DI := fun env M q E => da env M (fun ds M1 => ∃ j : Int, ds = [.int j] ∧ (-(2 ^ 62) ≤ j ∧ j < 2 ^ 62) ∧ q (rngD 0 j.toNat) (fun _ => True) M1) E
@[reducible] def dRng2 (da : DA) : DI := fun env M q E => da env M (fun ds M1 => ∃ i j : Int, ds = [.int i, .int j] ∧ (-(2 ^ 62) ≤ i ∧ i < 2 ^ 62 ∧ -(2 ^ 62) ≤ j ∧ j < 2 ^ 62) ∧ q (rngD i (j - i).toNat) (fun _ => True) M1) E
theorem id_rng1 {a : Expr} {da : DA} {p pos : Pos} (hg : Gl X "range") (hm : X.mg "range" = none) (ha : AD X W [a] da) (hs : starEach [a] X.env = [(false, eval a X.env)] := by rfl) : ID X W tg (.Call (.Name "range" p) [a] [] pos) (dRng1 da) :=
  piImp (pi_range1 hg hm ha hs) fun σ H R ⟨env, M, q, E, H0, so, S, h, k, kx⟩ => goA so S h kx fun xs ds H1 H' M1 e1 so1 S1 rs ⟨j, ej, b, w⟩ kx1 => by
    subst ej
    obtain ⟨v, rfl, rv⟩ := dnl1 rs
    cases rv
    exact ⟨j, rfl, b.1, b.2, k _ _ _ H1 H' M1 e1 S1 (itr_ok _) w⟩
theorem id_rng2 {a b : Expr} {da : DA} {p pos : Pos} (hg : Gl X "range") (hm : X.mg "range" = none) (ha : AD X W [a, b] da) (hs : starEach [a, b] X.env = [(false, eval a X.env), (false, eval b X.env)] := by rfl) (hs2 : starEach [b] X.env = [(false, eval b X.env)] := by rfl) :
    ID X W tg (.Call (.Name "range" p) [a, b] [] pos) (dRng2 da) :=
  piImp (pi_range2 hg hm ha hs hs2) fun σ H R ⟨env, M, q, E, H0, so, S, h, k, kx⟩ => goA so S h kx fun xs ds H1 H' M1 e1 so1 S1 rs ⟨i, j, ej, b, w⟩ kx1 => by
    subst ej
    obtain ⟨v, u, rfl, rv, ru⟩ := dnl2 rs
    cases rv; cases ru
    exact ⟨i, j, rfl, b, k _ _ _ H1 H' M1 e1 S1 (itr_ok _) w⟩
/-- a text, sign by sign -/
def strD (x : Str) : List D := x.cps.toList.map fun c => D.str ⟨#[c]⟩
theorem its_ok {K : PySem.W.Frag} {H0 : Hp} {x : Str} (ok : Mem → Prop) : ItOk K H0 (Its x) (strD x) ok where
  go := fun H0' H M i y e S _ hi => by
    unfold strD at hi
    rw [List.getElem?_map] at hi
    obtain ⟨c, hc, rfl⟩ := omap hi
    have hc' : x.cps[i]? = some c := by simpa using hc
    have hlt : i < x.cps.size := (Array.getElem?_eq_some_iff.mp hc').1
    exact ⟨hlt, fun v H' ⟨e1, c', e2, e3⟩ => by
      subst e1
      rw [hc'] at e2
      cases e2
      subst e3
      exact ⟨H0', Ext.refl _, S, .str _⟩⟩
  stop := fun H0' H M i e S _ hi => by
    unfold strD at hi
    rw [List.length_map] at hi
    show x.cps.size ≤ i
    simpa using hi
@[reducible] def dIterS (de : DE) : DI := fun env M q E => de env M (fun d M1 => ∃ x, d = .str x ∧ q (strD x) (fun _ => True) M1) E
theorem id_str {e : Expr} {de : DE} (h : PD X W e de) : ID X W tg e (dIterS de) := piImp (pi_str h) fun σ H R ⟨env, M, q, E, H0, so, S, h, k, kx⟩ =>
  goE so S h kx fun x dx H1 H' M1 e1 so1 S1 rx ⟨z, ez, w⟩ kx1 => by subst ez; exact ⟨z, rx.inv_str, k _ _ _ H1 H' M1 e1 S1 (its_ok _) w⟩
end
/-- the memory without a cell -/
def mdel (M : Mem) (c : Addr) : Mem := fun b => if b = c then none else M b
theorem mdel_mset {M : Mem} {c : Addr} {xs : Cel} (h : M c = none) : mdel (mset M c xs) c = M := by
  funext b
  unfold mdel
  by_cases e : b = c
  · subst e; rw [if_pos rfl, h]
  · rw [if_neg e, mset_ne e]
/-- exceptions at the slots as they are then -/
def KXE (K : PySem.W.Frag) (H0 : Hp) (ex : EnvD → XD) (W : WX) : Prop := ∀ H1 σ' env', Ext H0 H1 → SlotOk K H1 σ' env' → KX K H1 (ex env') fun c d => W c d σ'
theorem KXE.mono {K : PySem.W.Frag} {H0 H1 : Hp} {ex : EnvD → XD} {W : WX} (h : KXE K H0 ex W) (e : Ext H0 H1) : KXE K H1 ex W := fun H2 σ env e2 => h H2 σ env (e.trans e2)
theorem KXE.at {K : PySem.W.Frag} {H0 : Hp} {ex : EnvD → XD} {W : WX} (h : KXE K H0 ex W) {σ : L2.St} {env : EnvD} (so : SlotOk K H0 σ env) : KX K H0 (ex env) fun c d => W c d σ := h H0 σ env (Ext.refl H0) so
abbrev GD := D → EnvD → Mem → (EnvD → Mem → Prop) → (EnvD → XD) → Prop
abbrev GDs := List D → EnvD → Mem → (EnvD → Mem → Prop) → (EnvD → XD) → Prop
def KN (K : PySem.W.Frag) (H0 : Hp) (q : EnvD → Mem → Prop) (Q : L2.St → Hp → Prop) : Prop := ∀ σ' env' H0' H' M', Ext H0 H0' → SlotOk K H0' σ' env' → SD K H0' H' M' → q env' M' → Q σ' H'
theorem KN.mono {K : PySem.W.Frag} {H0 H1 : Hp} {q : EnvD → Mem → Prop} {Q : L2.St → Hp → Prop} (h : KN K H0 q Q) (e : Ext H0 H1) : KN K H1 q Q := fun σ env _ _ _ e2 => h σ env _ _ _ (e.trans e2)
def liftG (K : PySem.W.Frag) (W : WX) (gd : GD) : TG := fun v σ H Q => ∃ d env M q ex H0, Dn K H0 v d ∧ SlotOk K H0 σ env ∧ SD K H0 H M ∧ gd d env M q ex ∧ KN K H0 q Q ∧ KXE K H0 ex W
def liftGs (K : PySem.W.Frag) (W : WX) (gd : GDs) : TGs := fun vs σ H Q => ∃ ds env M q ex H0, DnL K H0 vs ds ∧ SlotOk K H0 σ env ∧ SD K H0 H M ∧ gd ds env M q ex ∧ KN K H0 q Q ∧ KXE K H0 ex W
def TgD (X : Cx) (W : WX) (e : Expr) (gd : GD) : Prop := PG X e (liftG X.K W gd)
def TgsD (X : Cx) (W : WX) (es : List Expr) (gd : GDs) : Prop := PGs X es (liftGs X.K W gd)
theorem pgImp {X : Cx} {e : Expr} {t t' : TG} (h : PG X e t) (i : ∀ v σ H Q, t' v σ H Q → t v σ H Q) : PG X e t' := ⟨fun pins s σ H v u Q I r q => h.run pins s σ H v u Q I r (i v σ H Q q)⟩
theorem pgsImp {X : Cx} {e : List Expr} {t t' : TGs} (h : PGs X e t) (i : ∀ v σ H Q, t' v σ H Q → t v σ H Q) : PGs X e t' := ⟨fun pins s σ H v u Q I r q => h.run pins s σ H v u Q I r (i v σ H Q q)⟩
section
variable {X : Cx} {W : WX}
@[reducible] def gdName (i : Nat) : GD := fun d env M q _ => q (env.set i (some d)) M
theorem gd_name {i : Nat} {x : Str} {pos : Pos} (hN : X.N.Nodup) (hi : X.N[i]? = some x := by rfl) (hx : Loc X.env.scope x := by first | exact Or.inl rfl | exact Or.inr rfl) (hf : X.fn x = true ∨ X.env.scope.names.lookup x = some .local := by first | exact .inl rfl | exact .inr rfl) :
    TgD X W (.Name x pos) (gdName i) := pgImp (pg_name hN hi hx hf) fun v σ H Q ⟨d, env, M, q, ex, H0, r, so, S, h, k, kx⟩ => k _ _ H0 H M (Ext.refl H0) (so.set i r) S h
@[reducible] def gdNil : GDs := fun ds env M q _ => ds = [] ∧ q env M
@[reducible] def gdCons (g : GD) (u : GDs) : GDs := fun ds env M q ex => ∃ d r, ds = d :: r ∧ g d env M (fun env' M' => u r env' M' q ex) ex
theorem gds_nil : TgsD X W [] gdNil := pgsImp pgs_nil fun v σ H Q ⟨ds, env, M, q, ex, H0, r, so, S, ⟨e, h⟩, k, kx⟩ => by
  subst e
  cases r
  exact ⟨rfl, k _ _ H0 H M (Ext.refl H0) so S h⟩
theorem gds_cons {e : Expr} {es : List Expr} {g : GD} {u : GDs} (h1 : TgD X W e g) (h2 : TgsD X W es u) (hs : (assignEach (e :: es) X.env).map (·.2) = assign e X.env :: (assignEach es X.env).map (·.2) := by rfl) : TgsD X W (e :: es) (gdCons g u) :=
  pgsImp (pgs_cons h1 h2 hs) fun v σ H Q ⟨ds, env, M, q, ex, H0, r, so, S, ⟨d, dr, e, h⟩, k, kx⟩ => by
    subst e
    cases r with
    | cons r rr => exact ⟨_, _, rfl, d, env, M, _, ex, H0, r, so, S, h, fun σ' env' H1 H' M' e1 so1 S1 w => ⟨dr, env', M', q, ex, H1, rr.mono e1, so1, S1, w, k.mono e1, kx.mono e1⟩, kx⟩
@[reducible] def gdTup (n : Nat) (u : GDs) : GD := fun d env M q ex => ∃ xs, d = .tup xs ∧ xs.length = n ∧ u xs env M q ex
theorem gd_tup {es : List Expr} {k : Nat} {u : GDs} {n : Nat} {pos : Pos} (hc : X.calm = true) (h : TgsD X W es u) (hn : (assignEach es X.env).length = n := by rfl) (hst : (assignEach es X.env).findIdx? (·.1) = none := by rfl) : TgD X W (.Tuple es k pos) (gdTup n u) :=
  pgImp (pg_tup hc h hn hst) fun v σ H Q ⟨d, env, M, q, ex, H0, r, so, S, ⟨xs, e, hl, h⟩, k, kx⟩ => by
    subst e
    cases r with
    | tup hh rr => exact ⟨_, _, rfl, S.ex.sqT hh, by rw [rr.length]; exact hl, xs, env, M, q, ex, H0, rr, so, S, h, k, kx⟩
/-- cell[i] = v -/
@[reducible] def gdSub (do_ di : DE) : GD := fun d env M q ex => do_ env M (fun o M1 => di env M1 (fun i M2 => ∃ c xs k j, o = .cel c ∧ i = .int k ∧ M2 c = some (.ls xs) ∧ ixN xs.length k = some j ∧ q env (mset M2 c (.ls (xs.set j d)))) (ex env)) (ex env)
theorem gd_sub {o i : Expr} {do_ di : DE} {pos : Pos} (ho : PD X W o do_) (hi : PD X W i di)
    (ha : ∀ v, assign (.Subscript o i pos) X.env v = (do let ov ← holding [v] (eval o X.env); let iv ← holding [v, ov] (eval i X.env); standAt pos; holding [v, ov, iv] (setItem ov iv v); release [v, ov, iv] []) := by intro _; rfl) : TgD X W (.Subscript o i pos) (gdSub do_ di) :=
  pgImp (pg_sub ho hi set_list ha) fun v σ H Q ⟨d, env, M, q, ex, H0, r, so, S, h, k, kx⟩ =>
    goE so S h (kx.at so) fun x dx H1 H' M1 e1 so1 S1 rx h1 kx1 => goE so1 S1 h1 kx1 fun y dy H2 H'' M2 e2 so2 S2 ry ⟨c, xs, kk, j, ec, ei, em, ej, w⟩ kx2 => by
      subst ec ei
      cases rx
      cases ry
      obtain ⟨n0, vs, hv, rs⟩ := S2.cell c xs em
      refine ⟨c, vs, kk, j, rfl, rfl, hv, by rw [rs.length]; exact ej, ?_⟩
      exact k _ _ H2 _ _ (e1.trans e2) so2 (S2.write em (rs.set j (r.mono (e1.trans e2)))) w
end
structure EndD where
  nx : EnvD → Mem → Prop
  rt : QD
  bk : EnvD → Mem → Prop := fun _ _ => False
  ct : EnvD → Mem → Prop := fun _ _ => False
  ex : EnvD → XD := fun _ _ _ _ _ => False
abbrev DS := EndD → EnvD → Mem → Prop
structure KE (K : PySem.W.Frag) (H0 : Hp) (W : WX) (d : EndD) (D : Ends) : Prop where
  nx : KN K H0 d.nx D.nx
  rt : KQ K H0 d.rt D.rt
  bk : KN K H0 d.bk D.bk
  ct : KN K H0 d.ct D.ct
  ex : KXE K H0 d.ex W
theorem KE.mono {K : PySem.W.Frag} {H0 H1 : Hp} {W : WX} {d : EndD} {D : Ends} (h : KE K H0 W d D) (e : Ext H0 H1) : KE K H1 W d D := ⟨h.nx.mono e, h.rt.mono e, h.bk.mono e, h.ct.mono e, h.ex.mono e⟩
def liftS (K : PySem.W.Frag) (W : WX) (ds : DS) : TS := fun D σ H => ∃ env M d H0, SlotOk K H0 σ env ∧ SD K H0 H M ∧ ds d env M ∧ KE K H0 W d D
def SDt (X : Cx) (W : WX) (st : Stmt) (ds : DS) : Prop := PS X st (liftS X.K W ds)
def BD (X : Cx) (W : WX) (sts : List Stmt) (ds : DS) : Prop := PSs X sts (liftS X.K W ds)
section
variable {X : Cx} {W : WX}
@[reducible] def dNext : DS := fun d env M => d.nx env M
@[reducible] def dSeq (a b : DS) : DS := fun d env M => a { d with nx := fun env' M' => b d env' M' } env M
theorem bd_nil : BD X W [] dNext := pssImp pss_nil fun D σ H ⟨env, M, d, H0, so, S, h, k⟩ => k.nx _ _ H0 H M (Ext.refl H0) so S h
theorem bd_cons {st : Stmt} {r : List Stmt} {a b : DS} (h1 : SDt X W st a) (h2 : BD X W r b) : BD X W (st :: r) (dSeq a b) := pssImp (pss_cons h1 h2) fun D σ H ⟨env, M, d, H0, so, S, h, k⟩ =>
  ⟨env, M, _, H0, so, S, h, ⟨fun σ' env' H1 H' M' e so' S' w => ⟨env', M', d, H1, so', S', w, k.mono e⟩, k.rt, k.bk, k.ct, k.ex⟩⟩
theorem bd_one {st : Stmt} {a : DS} (h1 : SDt X W st a) : BD X W [st] a := pss_one h1
@[reducible] def dExp (de : DE) : DS := fun d env M => de env M (fun _ M' => d.nx env M') (d.ex env)
theorem sd_expr {e : Expr} {de : DE} {pos : Pos} (h : PD X W e de) (hs : swapsWith e none pos.line X.env = pure false := by rfl) : SDt X W (.Expr e pos) (dExp de) := psImp (ps_expr h hs) fun D σ H ⟨env, M, d, H0, so, S, h, k⟩ =>
  goE so S h (k.ex.at so) fun x dx H1 H' M1 e1 so1 S1 rx w kx1 => k.nx _ _ H1 H' M1 e1 so1 S1 w
@[reducible] def dRet (de : DE) : DS := fun d env M => de env M d.rt (d.ex env)
theorem sd_ret {e : Expr} {de : DE} {pos : Pos} (h : PD X W e de) : SDt X W (.Return (some e) pos) (dRet de) := psImp (ps_ret h) fun D σ H ⟨env, M, d, H0, so, S, h, k⟩ =>
  goE so S h (k.ex.at so) fun x dx H1 H' M1 e1 so1 S1 rx w kx1 => k.rt _ _ H1 H' M1 e1 S1 rx w
theorem SD.freeze {K : PySem.W.Frag} {H0 H : Hp} {M : Mem} {c : Addr} {xs : List D} (S : SD K H0 H M) (h : M c = some (.ls xs)) : ∃ vs, H c = some (.lst vs) ∧ H0 c = none ∧ SD K (upd H0 c (.lst vs)) H (mdel M c) ∧ Dn K (upd H0 c (.lst vs)) (.ref c) (.lst xs) := by
  obtain ⟨n0, vs, e1, r⟩ := S.cell c xs h
  refine ⟨vs, e1, n0, ⟨fun a o q => ?_, fun b ys q => ?_⟩, .lst upd_same (r.mono (Ext.add n0))⟩
  · by_cases z : a = c
    · subst z; rw [upd_same] at q; cases q; exact e1
    · rw [upd_ne z] at q; exact S.ex a o q
  · unfold mdel at q
    by_cases z : b = c
    · rw [if_pos z] at q; cases q
    · rw [if_neg z] at q
      obtain ⟨n1, ok⟩ := S.any b ys q
      exact ⟨by rw [upd_ne z]; exact n1, ok.same (Ext.add n0) rfl⟩
@[reducible] def dIfS (t : DT) (a b : DS) : DS := fun d env M => t env M (fun c M1 => if c = true then a d env M1 else b d env M1) (d.ex env)
theorem sd_if {c : Expr} {a b : List Stmt} {dt : DT} {da db : DS} {pos : Pos} (hc : TD X W c dt) (ha : BD X W a da) (hb : BD X W b db) : SDt X W (.If c a b pos) (dIfS dt da db) := psImp (ps_if hc ha hb) fun D σ H ⟨env, M, d, H0, so, S, h, k⟩ =>
  goT so S h (k.ex.at so) fun c H1 H' M1 e1 so1 S1 w kx1 => by
    cases c with
    | true => exact iteT ⟨env, M1, d, H1, so1, S1, w, k.mono e1⟩
    | false => exact iteF ⟨env, M1, d, H1, so1, S1, w, k.mono e1⟩
@[reducible] def dAsg (de : DE) (g : GD) : DS := fun d env M => de env M (fun x M1 => g x env M1 d.nx d.ex) (d.ex env)
theorem sd_asg {tg e : Expr} {de : DE} {g : GD} {pos : Pos} (he : PD X W e de) (hg : TgD X W tg g) (hs : swapsWithSole [tg] e pos.line X.env = pure false := by rfl) (hw : swappedStores [tg] e X.env = pure none := by rfl)
    (h1 : (assignEach [tg] X.env).map (·.2) = [assign tg X.env] := by rfl) : SDt X W (.Assign [tg] e pos) (dAsg de g) := psImp (ps_asg he hg hs hw h1) fun D σ H ⟨env, M, d, H0, so, S, h, k⟩ =>
  goE so S h (k.ex.at so) fun x dx H1 H' M1 e1 so1 S1 rx w kx1 => ⟨dx, env, M1, d.nx, d.ex, H1, rx, so1, S1, w, k.nx.mono e1, k.ex.mono e1⟩
@[reducible] def dSet (i : Nat) (de : DE) : DS := fun d env M => de env M (fun x M1 => d.nx (env.set i (some x)) M1) (d.ex env)
theorem sd_set (i : Nat) {x : Str} {e : Expr} {de : DE} {pos pos' : Pos} (hN : X.N.Nodup) (he : PD X W e de) (hi : X.N[i]? = some x := by rfl) (hx : Loc X.env.scope x := by first | exact Or.inl rfl | exact Or.inr rfl) (hs : swapsWith e (some (.Name x pos')) pos.line X.env = pure false := by rfl)
    (hf : X.fn x = true ∨ X.env.scope.names.lookup x = some .local := by first | exact .inl rfl | exact .inr rfl) : SDt X W (.Assign [.Name x pos'] e pos) (dSet i de) := psImp (ps_set hN hi hx he hs hf) fun D σ H ⟨env, M, d, H0, so, S, h, k⟩ =>
  goE so S h (k.ex.at so) fun x dx H1 H' M1 e1 so1 S1 rx w kx1 => k.nx _ _ H1 H' M1 e1 (so1.set i rx) S1 w
def forW (ok : Mem → Prop) (g : GD) (body : DS) (d : EndD) : List D → EnvD → Mem → Prop
  | [], env, M => ok M ∧ d.nx env M
  | x :: r, env, M => ok M ∧ g x env M (fun env' M' => body { d with nx := forW ok g body d r, ct := forW ok g body d r, bk := d.nx } env' M') d.ex
@[reducible] def dFor (di : DI) (g : GD) (body : DS) : DS := fun d env M => di env M (fun items ok M1 => forW ok g body d items env M1) (d.ex env)
theorem sd_for {tg it : Expr} {body : List Stmt} {di : DI} {g : GD} {db : DS} {pos : Pos} (hp : PassesOwn (model X.prog X.w) X.A X.env X.xe) (hc : X.calm = true) (hi : ID X W tg it di) (hg : TgD X W tg g) (hb : BD X W body db)
    (hs : ∀ x, foldedSetIterable it X.env x = pure x := by intro _; rfl) : SDt X W (.For tg it body [] pos) (dFor di g db) := psImp (ps_for hp hc hi hg hb hs) fun D σ H ⟨env, M, d, H0, so, S, h, k⟩ =>
  goI so S h (k.ex.at so) fun J items ok H1 H' M1 e1 so1 S1 io w kx1 => by
    refine ⟨fun i m σ2 H2 => m = items.length - i ∧ i ≤ items.length ∧ ∃ env2 M2 H3, Ext H1 H3 ∧ SlotOk X.K H3 σ2 env2 ∧ SD X.K H3 H2 M2 ∧ forW ok g db d (items.drop i) env2 M2, ⟨_, rfl, Nat.zero_le _, env, M1, H1, Ext.refl _, so1, S1, w⟩, ?_⟩
    rintro i m σ2 H2 ⟨rfl, hi2, env2, M2, H3, e3, so3, S3, w3⟩
    by_cases hlt : i < items.length
    · have hx : items[i]? = some items[i] := List.getElem?_eq_getElem hlt
      rw [List.drop_eq_getElem_cons hlt] at w3
      obtain ⟨o3, w3⟩ := w3
      obtain ⟨g1, g2⟩ := io.go H3 H2 M2 i _ e3 S3 o3 hx
      refine .inr ⟨g1, fun σ4 H4 => ∃ env4 M4 H5, Ext H1 H5 ∧ SlotOk X.K H5 σ4 env4 ∧ SD X.K H5 H4 M4 ∧ forW ok g db d (items.drop (i + 1)) env4 M4, fun σ4 H4 z => ⟨items.length - (i + 1), by omega, rfl, hlt, z⟩, fun x H4 y => ?_⟩
      obtain ⟨H5, e5, S5, r5⟩ := g2 x H4 y
      refine ⟨_, env2, M2, _, d.ex, H5, r5, so3.mono e5, S5, w3, fun σ6 env6 H6 H6' M6 e6 so6 S6 w6 => ?_, k.ex.mono ((e1.trans e3).trans e5)⟩
      have e16 : Ext H1 H6 := (e3.trans e5).trans e6
      refine ⟨env6, M6, _, H6, so6, S6, w6, ⟨fun σ7 env7 H7 H7' M7 e7 so7 S7 w7 => ⟨env7, M7, H7, e16.trans e7, so7, S7, w7⟩, k.rt.mono (e1.trans e16), k.nx.mono (e1.trans e16), fun σ7 env7 H7 H7' M7 e7 so7 S7 w7 => ⟨env7, M7, H7, e16.trans e7, so7, S7, w7⟩, k.ex.mono (e1.trans e16)⟩⟩
    · have hge : items.length ≤ i := Nat.le_of_not_lt hlt
      rw [List.drop_eq_nil_of_le hge] at w3
      exact .inl ⟨io.stop H3 H2 M2 i e3 S3 w3.1 hge, k.nx _ _ H3 H2 M2 (e1.trans e3) so3 S3 w3.2⟩
end
/-- the slots of the block's own names forgotten -/
def wipeD (env : EnvD) : List Nat → EnvD
  | [] => env
  | i :: r => (wipeD env r).set i none
def noX : XD := fun _ _ _ _ => False
/-- the turns of a comprehension; c the cell that grows -/
def lcW (ok : Mem → Prop) (g : GD) (t : DT) (de : DE) (env : EnvD) (q : QD) (c : Addr) : List D → Mem → Prop
  | [], M => ok M ∧ ∃ xs, M c = some (.ls xs) ∧ q (.lst xs) (mdel M c)
  | x :: r, M => ok M ∧ g x env M (fun env' M' => t env' M' (fun b M2 => if b = true then de env' M2 (fun y M3 => ∃ xs, M3 c = some (.ls xs) ∧ xs.length < sizeLine ∧ lcW ok g t de env q c r (mset M3 c (.ls (xs ++ [y])))) noX else lcW ok g t de env q c r M2) noX) (fun _ => noX)
@[reducible] def dLc (di : DI) (g : GD) (t : DT) (de : DE) (vs : List Nat) : DE := fun env M q E => di env M (fun items ok M1 => ∀ c, M1 c = none → lcW ok g t de (wipeD env vs) q c items (mset M1 c (.ls []))) E
end DL
set_option maxRecDepth 100000
set_option maxHeartbeats 4000000
namespace DL
open PySem PySem.Spec PyProof.Rows L2
theorem wipe_set {σ : L2.St} {i : Nat} {x : Option V} : ∀ {vs : List Nat}, i ∈ vs → wipe (σ.set i x) vs = wipe σ vs
  | [], h => by cases h
  | v :: vs, h => by
    show (wipe (σ.set i x) vs).set v none = (wipe σ vs).set v none
    by_cases hv : i ∈ vs
    · rw [wipe_set hv]
    · have e : i = v := (List.mem_cons.mp h).resolve_right hv
      subst e
      have z : ∀ ws : List Nat, i ∉ ws → wipe (σ.set i x) ws = (wipe σ ws).set i x := fun ws => by
        induction ws with
        | nil => intro _; rfl
        | cons w ws ih =>
          intro hw
          have h1 : i ≠ w := fun q => hw (by rw [q]; exact List.mem_cons_self)
          have h2 : i ∉ ws := fun q => hw (List.mem_cons_of_mem _ q)
          show (wipe (σ.set i x) ws).set w none = ((wipe σ ws).set w none).set i x
          rw [ih h2, List.set_comm _ _ h1]
      rw [z vs hv, List.set_set]
theorem wipe_idem {σ : L2.St} {i : Nat} : ∀ {vs : List Nat}, i ∈ vs → (wipe σ vs).set i none = wipe σ vs
  | [], h => by cases h
  | v :: vs, h => by
    show ((wipe σ vs).set v none).set i none = (wipe σ vs).set v none
    by_cases e : i = v
    · subst e; rw [List.set_set]
    · rw [List.set_comm _ _ (fun q => e q.symm), wipe_idem ((List.mem_cons.mp h).resolve_left e)]
theorem slot_wipe {K : PySem.W.Frag} {H : Hp} {σ : L2.St} {env : EnvD} (so : SlotOk K H σ env) : ∀ vs : List Nat, SlotOk K H (wipe σ vs) (wipeD env vs)
  | [] => so
  | v :: vs => by
    have ih := slot_wipe so vs
    refine ⟨?_, fun i d h => ?_⟩
    · show ((wipe σ vs).set v none).length = ((wipeD env vs).set v none).length
      rw [List.length_set, List.length_set]; exact ih.len
    · have h' : ((wipeD env vs).set v none)[i]? = some (some d) := h
      by_cases e : v = i
      · subst e
        by_cases l : v < (wipeD env vs).length
        · rw [List.getElem?_set_self l] at h'; cases h'
        · rw [List.getElem?_eq_none (by simpa using l)] at h'; cases h'
      · rw [List.getElem?_set_ne e] at h'
        obtain ⟨u, h1, h2⟩ := ih.get i d h'
        refine ⟨u, ?_, h2⟩
        show ((wipe σ vs).set v none)[i]? = _
        rw [List.getElem?_set_ne e]; exact h1
/-- nothing is let out -/
abbrev WF : WX := fun _ _ _ _ => False
theorem kx0 {K : PySem.W.Frag} {H : Hp} {W : XK} : KX K H noX W := fun _ _ _ _ _ _ _ _ _ _ z => z.elim
/-- a target whose names are the block's own -/
def liftGw (K : PySem.W.Frag) (gd : GD) (vs : List Nat) : TG := fun v σ H Q => ∃ d env M q H0, Dn K H0 v d ∧ SlotOk K H0 σ env ∧ SD K H0 H M ∧ gd d env M q (fun _ => noX) ∧
  (∀ σ' env' H0' H' M', Ext H0 H0' → SlotOk K H0' σ' env' → SD K H0' H' M' → q env' M' → wipe σ' vs = wipe σ vs → Q σ' H')
def liftGws (K : PySem.W.Frag) (gd : GDs) (vs : List Nat) : TGs := fun xs σ H Q => ∃ ds env M q H0, DnL K H0 xs ds ∧ SlotOk K H0 σ env ∧ SD K H0 H M ∧ gd ds env M q (fun _ => noX) ∧
  (∀ σ' env' H0' H' M', Ext H0 H0' → SlotOk K H0' σ' env' → SD K H0' H' M' → q env' M' → wipe σ' vs = wipe σ vs → Q σ' H')
def TgW (X : Cx) (e : Expr) (gd : GD) (vs : List Nat) : Prop := PG X e (liftGw X.K gd vs)
def TgsW (X : Cx) (e : List Expr) (gd : GDs) (vs : List Nat) : Prop := PGs X e (liftGws X.K gd vs)
section
variable {X : Cx} {vs : List Nat}
theorem gw_name {i : Nat} {x : Str} {pos : Pos} (hN : X.N.Nodup) (hv : i ∈ vs := by decide) (hi : X.N[i]? = some x := by rfl) (hx : Loc X.env.scope x := by first | exact Or.inl rfl | exact Or.inr rfl) (hf : X.fn x = true ∨ X.env.scope.names.lookup x = some .local := by first | exact .inl rfl | exact .inr rfl) :
    TgW X (.Name x pos) (gdName i) vs := pgImp (pg_name hN hi hx hf) fun v σ H Q ⟨d, env, M, q, H0, r, so, S, h, k⟩ => k _ _ H0 H M (Ext.refl H0) (so.set i r) S h (wipe_set hv)
theorem gws_nil : TgsW X [] gdNil vs := pgsImp pgs_nil fun v σ H Q ⟨ds, env, M, q, H0, r, so, S, ⟨e, h⟩, k⟩ => by
  subst e
  cases r
  exact ⟨rfl, k _ _ H0 H M (Ext.refl H0) so S h rfl⟩
theorem gws_cons {e : Expr} {es : List Expr} {g : GD} {u : GDs} (h1 : TgW X e g vs) (h2 : TgsW X es u vs) (hs : (assignEach (e :: es) X.env).map (·.2) = assign e X.env :: (assignEach es X.env).map (·.2) := by rfl) : TgsW X (e :: es) (gdCons g u) vs :=
  pgsImp (pgs_cons h1 h2 hs) fun v σ H Q ⟨ds, env, M, q, H0, r, so, S, ⟨d, dr, e, h⟩, k⟩ => by
    subst e
    cases r with
    | cons r rr => exact ⟨_, _, rfl, d, env, M, _, H0, r, so, S, h, fun σ' env' H1 H' M' e1 so1 S1 w wz => ⟨dr, env', M', q, H1, rr.mono e1, so1, S1, w, fun σ2 env2 H2 H2' M2 e2 so2 S2 w2 wz2 => k σ2 env2 H2 H2' M2 (e1.trans e2) so2 S2 w2 (wz2.trans wz)⟩⟩
theorem gw_tup {es : List Expr} {k : Nat} {u : GDs} {n : Nat} {pos : Pos} (hc : X.calm = true) (h : TgsW X es u vs) (hn : (assignEach es X.env).length = n := by rfl) (hst : (assignEach es X.env).findIdx? (·.1) = none := by rfl) : TgW X (.Tuple es k pos) (gdTup n u) vs :=
  pgImp (pg_tup hc h hn hst) fun v σ H Q ⟨d, env, M, q, H0, r, so, S, ⟨xs, e, hl, h⟩, k⟩ => by
    subst e
    cases r with
    | tup hh rr => exact ⟨_, _, rfl, S.ex.sqT hh, by rw [rr.length]; exact hl, xs, env, M, q, H0, rr, so, S, h, k⟩
end
section
variable {X : Cx} {W : WX}
def TsD (X : Cx) (es : List Expr) (dt : DT) : Prop := PTs X es (liftT X.K WF dt)
@[reducible] def dYes : DT := fun _ M q _ => q true M
theorem ptsImp {es : List Expr} {t t' : TT} (h : PTs X es t) (i : ∀ σ H Q, t' σ H Q → t σ H Q) : PTs X es t' := ⟨fun pins s σ H Q I q => h.run pins s σ H Q I (i σ H Q q)⟩
theorem tsd_nil : TsD X [] dYes := ptsImp pts_nil fun σ H Q ⟨env, M, q, E, H0, so, S, h, k, kx⟩ => k true H0 H M (Ext.refl H0) S h
theorem tsd_one {c : Expr} {t : DT} (h : TD X WF c t) : TsD X [c] t := pts_one h
theorem lift_lc {K : PySem.W.Frag} {di : DI} {g : GD} {t : DT} {de : DE} {vs : List Nat} : ∀ σ H Q, liftE K W (dLc di g t de vs) σ H Q → tLc (liftI K W di) (liftGw K g vs) (liftT K WF t) (liftE K WF de) vs σ H Q := fun σ H Q ⟨env, M, q, E, H0, so, S, h, k, kx⟩ =>
  goI so S h kx fun J items ok H1 H' M1 e1 so1 S1 io w kx1 => by
    intro Dl hD
    have S1' := S1.newCell (vs := []) (xs := []) hD .nil
    have sw := slot_wipe so1 vs
    refine ⟨fun i m H2 => m = items.length - i ∧ i ≤ items.length ∧ ∃ M2 H3, Ext H1 H3 ∧ SD K H3 H2 M2 ∧ lcW ok g t de (wipeD env vs) q Dl (items.drop i) M2,
      ⟨_, rfl, Nat.zero_le _, _, H1, Ext.refl _, S1', w Dl (S1.fresh hD).2⟩, ?_⟩
    rintro i m H2 ⟨rfl, hi2, M2, H3, e3, S3, w3⟩
    by_cases hlt : i < items.length
    · have hx : items[i]? = some items[i] := List.getElem?_eq_getElem hlt
      rw [List.drop_eq_getElem_cons hlt] at w3
      obtain ⟨o3, w3⟩ := w3
      obtain ⟨g1, g2⟩ := io.go H3 H2 M2 i _ e3 S3 o3 hx
      refine .inr ⟨g1, fun H4 => ∃ M4 H5, Ext H1 H5 ∧ SD K H5 H4 M4 ∧ lcW ok g t de (wipeD env vs) q Dl (items.drop (i + 1)) M4, fun H4 z => ⟨items.length - (i + 1), by omega, rfl, hlt, z⟩, fun x H4 y => ?_⟩
      obtain ⟨H5, e5, S5, r5⟩ := g2 x H4 y
      refine ⟨_, _, M2, _, H5, r5, sw.mono (e3.trans e5), S5, w3, fun σ6 env6 H6 H6' M6 e6 so6 S6 w6 wz => ⟨?_, goT so6 S6 w6 kx0 fun b H7 H7' M7 e7 so7 S7 w7 _ => ?_⟩⟩
      · have z : ∀ (ws : List Nat), (∀ v ∈ ws, v ∈ vs) → wipe (wipe σ vs) ws = wipe σ vs := fun ws => by
          induction ws with
          | nil => intro _; rfl
          | cons v ws ih =>
            intro hv
            show (wipe (wipe σ vs) ws).set v none = wipe σ vs
            rw [ih fun u hu => hv u (List.mem_cons_of_mem _ hu)]
            exact wipe_idem (hv v List.mem_cons_self)
        rw [wz]
        exact z vs fun _ h => h
      · have e17 : Ext H1 H7 := ((e3.trans e5).trans e6).trans e7
        cases b with
        | true =>
          refine iteT ?_
          refine goE so7 S7 (show de env6 M7 _ noX from w7) kx0 fun v d H8 H8' M8 e8 so8 S8 r8 ⟨xs, ex, hl, w8⟩ _ => ?_
          obtain ⟨n0, us, e9, r9⟩ := S8.cell Dl xs ex
          exact ⟨us, e9, by rw [r9.length]; exact hl, _, H8, e17.trans e8, S8.write ex (r9.app (.one r8)), w8⟩
        | false => exact iteF ⟨M7, H7, e17, S7, w7⟩
    · have hge : items.length ≤ i := Nat.le_of_not_lt hlt
      rw [List.drop_eq_nil_of_le hge] at w3
      obtain ⟨o3, xs, ex, w3⟩ := w3
      refine .inl ⟨io.stop H3 H2 M2 i e3 S3 o3 hge, ?_⟩
      obtain ⟨us, _, n0, S4, r4⟩ := S3.freeze ex
      exact k _ _ _ H2 _ ((e1.trans e3).trans (Ext.add n0)) S4 r4 w3
theorem pd_lc {elt tg iter : Expr} {ifs : List Expr} {scope : Scope} {own : List (Str × Nat)} {pos : Pos} {di : DI} {g : GD} {t : DT} {de : DE} (hc : X.calm = true) (hN : X.N.Nodup) (hi : ID X W tg iter di) (ok : BlkOk X.N X.env.scope scope own)
    (hg : ∀ (s : Shared) (H : Hp) (C : Addr) (cl : List (Str × Addr)) (fp : List Addr), TgW (X.blk s H scope (compEnvC scope cl C X.env) fp) tg g (own.map (·.2))) (ht : ∀ (s : Shared) (H : Hp) (C : Addr) (cl : List (Str × Addr)) (fp : List Addr), TsD (X.blk s H scope (compEnvC scope cl C X.env) fp) ifs t)
    (he : ∀ (s : Shared) (H : Hp) (C : Addr) (cl : List (Str × Addr)) (fp : List Addr), PD (X.blk s H scope (compEnvC scope cl C X.env) fp) WF elt de) (hs : ∀ x, foldedSetIterable iter X.env x = pure x := by intro _; rfl) :
    PD X W (.ListComp elt [⟨tg, iter, ifs, 0⟩] scope pos) (dLc di g t de (own.map (·.2))) := peImp (pe_lc (g := liftGw X.K g (own.map Prod.snd)) (tt := liftT X.K WF t) (te := liftE X.K WF de) hc hN hi ok hg ht he hs) lift_lc
/-- name = [..] on one line, the name a plain local -/
theorem sd_setLc (i : Nat) {y : Str} {py : Pos} {elt tg iter : Expr} {ifs : List Expr} {scope : Scope} {own : List (Str × Nat)} {pos spos : Pos} {di : DI} {g : GD} {t : DT} {de : DE} (hc : X.calm = true) (hN : X.N.Nodup)
    (hsw : swapsWith (.ListComp elt [⟨tg, iter, ifs, 0⟩] scope pos) (some (.Name y py)) spos.line X.env = pure true) (hi : ID X W tg iter di) (ok : BlkOk X.N X.env.scope scope own)
    (hg : ∀ (s : Shared) (H : Hp) (C : Addr) (cl : List (Str × Addr)) (fp : List Addr), TgW (X.blk s H scope (compEnvC scope cl C X.env) fp) tg g (own.map (·.2))) (ht : ∀ (s : Shared) (H : Hp) (C : Addr) (cl : List (Str × Addr)) (fp : List Addr), TsD (X.blk s H scope (compEnvC scope cl C X.env) fp) ifs t)
    (he : ∀ (s : Shared) (H : Hp) (C : Addr) (cl : List (Str × Addr)) (fp : List Addr), PD (X.blk s H scope (compEnvC scope cl C X.env) fp) WF elt de) (hy : X.N[i]? = some y := by rfl) (hyl : X.env.scope.names.lookup y = some .local := by rfl)
    (hs : ∀ x, foldedSetIterable iter X.env x = pure x := by intro _; rfl) : SDt X W (.Assign [.Name y py] (.ListComp elt [⟨tg, iter, ifs, 0⟩] scope pos) spos) (dSet i (dLc di g t de (own.map (·.2)))) :=
  psImp (ps_setLc (g := liftGw X.K g (own.map Prod.snd)) (tt := liftT X.K WF t) (te := liftE X.K WF de) hc hN hy hyl hsw hi ok hg ht he hs) fun D σ H ⟨env, M, d, H0, so, S, h, k⟩ =>
    lift_lc σ H _ (goE so S h (k.ex.at so) fun x dx H1 H' M1 e1 so1 S1 rx w kx1 => k.nx _ _ H1 H' M1 e1 (so1.set i rx) S1 w)
end
abbrev SpD := List D → Mem → QD → XD → Prop
def spOf (K : PySem.W.Frag) (n : Nat) (sd : SpD) : Sp := fun vs H Q E => ∃ ds M q ex H0, ds.length = n ∧ DnL K H0 vs ds ∧ SD K H0 H M ∧ sd ds M q ex ∧ KQ K H0 q Q ∧ KX K H0 ex E
@[reducible] def startD (N : List Str) (ds : List D) : EnvD := ds.map some ++ List.replicate (N.length - ds.length) none
theorem slot_start {K : PySem.W.Frag} {H0 : Hp} {N : List Str} {vs : List V} {ds : List D} (r : DnL K H0 vs ds) : SlotOk K H0 (L2.start N vs) (startD N ds) := by
  refine ⟨?_, fun i d h => ?_⟩
  · unfold L2.start startD
    rw [List.length_append, List.length_append, List.length_map, List.length_map, List.length_replicate, List.length_replicate, r.length]
  · unfold startD at h
    by_cases hi : i < ds.length
    · rw [List.getElem?_append_left (by simpa using hi), List.getElem?_map] at h
      obtain ⟨e, h1, h2⟩ := omap h
      cases h2
      obtain ⟨v, hv, rv⟩ := r.get h1
      refine ⟨v, ?_, rv⟩
      unfold L2.start
      rw [List.getElem?_append_left (by rw [List.length_map, r.length]; exact hi), List.getElem?_map, hv]
      rfl
    · rw [List.getElem?_append_right (by simpa using hi), List.getElem?_replicate] at h
      split at h <;> cases h
/-- a def of the text, guards known to be none while it runs -/
structure FnG (P : Program) (w : World) (K : PySem.W.Frag) (mg : Str → Option Value) (base : Heap) (k : Nat) (f : Addr) (fd : FuncData) (ps : List Str) (sp : Sp) : Prop where
  len : ∀ vs H Q E, sp vs H Q E → vs.length = ps.length
  run : ∀ (A : Around) (fr : List Env) (s : Shared) (H : Hp) (args : Args) (us : List Value) (vs : List V) (Q : VK) (E : XK), Room k A → A.guards = some [] → Env0 P w K mg base A fr s H → BindsTo s fd args (ps.zip us) → Vals vs us → sp vs H Q E →
    codeAny (model P w) A (.call (.ref f) args) (CR (L2.CX P w) fr P w H s Q E) s
section
variable {P : Program} {w : World} {K : PySem.W.Frag} {mg : Str → Option Value} {base : Heap} {x qual : Str} {params : Arguments} {body : List Stmt} {scope : Scope} {dvs : List V} {kws : List (Str × V)} {f : Addr} {fd : FuncData}
theorem FnG.of {k : Nat} {ps : List Str} {sp : Sp} (F : FnOk P w K mg base (L2.CX P w) k f fd ps sp) : FnG P w K mg base k f fd ps sp := ⟨F.len, fun A fr s H args us vs Q E hr _ => F.run A fr s H args us vs Q E hr⟩
theorem FnG.mono {j k : Nat} {ps : List Str} {sp : Sp} (F : FnG P w K mg base j f fd ps sp) (h : j ≤ k) : FnG P w K mg base k f fd ps sp := ⟨F.len, fun A fr s H args us vs Q E hr => F.run A fr s H args us vs Q E (hr.mono h)⟩
/-- what a body is to show -/
def Keeps (N : List Str) (n : Nat) (sd : SpD) (db : DS) : Prop := ∀ ds M q ex, ds.length = n → sd ds M q ex → db { nx := fun _ M' => q .non M', rt := q, ex := fun _ => ex } (startD N ds) M
theorem keeps_run {N : List Str} {n : Nat} {sd : SpD} {db : DS} (hk : Keeps N n sd db) {vs : List V} {H : Hp} {Q : VK} {E : XK} (h : spOf K n sd vs H Q E) : liftS K (fun c d _ H => E c d H) db { nx := fun _ H' => Q .non H', rt := Q } (L2.start N vs) H := by
  obtain ⟨ds, M, q, ex, H0, hl, r, S, h, kq, kx⟩ := h
  exact ⟨startD N ds, M, _, H0, slot_start r, S, hk ds M q ex hl h, ⟨fun _ _ H1 H' M' e so' S' w => kq _ _ H1 H' M' e S' .non w, kq, fun _ _ _ _ _ _ _ _ z => z.elim, fun _ _ _ _ _ _ _ _ z => z.elim, fun H1 _ _ e _ => kx.mono e⟩⟩
theorem sp_len {n : Nat} {sd : SpD} {ps : List Str} (hn : ps.length = n) : ∀ vs H Q E, spOf K n sd vs H Q E → vs.length = ps.length := fun vs H Q E ⟨ds, M, q, ex, H0, hl, r, _⟩ => by rw [r.length, hl, hn]
/-- THE RULE for a def whose body asks no guards -/
theorem okD {N ps : List Str} {k n : Nat} {sd : SpD} {db : DS} (F : FunD K x qual params body scope dvs kws f fd) (Sc : FnScope N ps scope) (hn : ps.length = n)
    (hb : ∀ (cdv : Value) (A : Around) (fr : List Env) (s : Shared) (H : Hp) (E : XK), Room k (A.deeper (envOfC qual scope s.heap.objs.size f cdv)) → BD (cxOf (L2.CX P w) P w K mg base N qual scope f cdv A fr s H E) (fun c d _ H => E c d H) body db)
    (hk : Keeps N n sd db) : FnOk P w K mg base (L2.CX P w) (k + 1) f fd ps (spOf K n sd) :=
  F.ok Sc (sp_len hn) fun cdv A fr s H vs Q E hr h => ⟨_, hb cdv A fr s H E hr, keeps_run hk h⟩
/-- .. where guards are known to be none -/
theorem okG {N ps : List Str} {k n : Nat} {sd : SpD} {db : DS} (F : FunD K x qual params body scope dvs kws f fd) (Sc : FnScope N ps scope) (hn : ps.length = n)
    (hb : ∀ (cdv : Value) (A : Around) (fr : List Env) (s : Shared) (H : Hp) (E : XK), Room k (A.deeper (envOfC qual scope s.heap.objs.size f cdv)) → A.guards = some [] → BD (cxOf (L2.CX P w) P w K mg base N qual scope f cdv A fr s H E) (fun c d _ H => E c d H) body db)
    (hk : Keeps N n sd db) : FnG P w K mg base (k + 1) f fd ps (spOf K n sd) := by
  obtain ⟨oc, od, dV, kV, doc, pm, an, cdv, ct, osl, rfl, lk, hcd, _, _⟩ := F.ex
  refine ⟨sp_len hn, fun A fr s H args us vs Q E hr hg e0 hbd rv hsp => ?_⟩
  have hl := sp_len hn _ _ _ _ hsp
  have kIn : K.In s.heap := e0.mod.kin.keeps fun b o e => (e0.bs b o e).1
  have noL : s.heap.NoLimit := e0.mod.nolimit.keeps fun b o e => (e0.bs b o e).1
  refine codeAny_call_function hr.depth (kIn _ _ lk) rfl Sc.co Sc.gen rfl (PySem.W.codeRec_of kIn hcd) (hbd _ _ _ _ (wpAny_newFunctionEnv_cells Sc.kind (fun ⟨y, v⟩ hy => ?_) fun env he s1 ic => ?_))
  · rcases Sc.par y (List.of_mem_zip hy).1 with z | z
    · exact .inl z
    · exact .inr ⟨z, PySem.W.cellsFrom_some _ _ _ (.inl z)⟩
  · subst he
    have J := inv_start (CX := L2.CX P w) (E := E) (cd := cdv) (f := f) (qual := qual) Sc hr.hd e0 hl rv ic
    refine ⟨noL.keeps ic.toInCall.keep, codeAny_func (wpAny_mono ((hb cdv A fr s H E (hr.deeper _) hg).run [] s1 (L2.start N vs) H _ J (keeps_run hk hsp)) (fun fl s2 out => ?_) fun e s2 out => out)⟩
    cases fl with
    | ret u => obtain ⟨v, _, H', J', ru, q⟩ := out; exact ⟨v, H', J'.os, J'.bare, J'.base, J'.hok, ru, q⟩
    | next => obtain ⟨_, H', J', q⟩ := out; exact ⟨.non, H', J'.os, J'.bare, J'.base, J'.hok, rfl, q⟩
    | brk => obtain ⟨_, _, _, q⟩ := out; exact q.elim
    | cont => obtain ⟨_, _, _, q⟩ := out; exact q.elim
end
section
variable {X : Cx} {W : WX} {k n : Nat} {f : Addr} {fd : FuncData} {ps : List Str} {sd : SpD} {x : Str} {p pos : Pos} {e : Expr} {es : List Expr} {da : DA}
@[reducible] def dCall (n : Nat) (sd : SpD) (da : DA) : DE := fun env M q E => da env M (fun ds M1 => ds.length = n ∧ sd ds M1 q E) E
theorem lift_call : ∀ σ H Q, liftE X.K W (dCall n sd da) σ H Q → tCallSD (spOf X.K n sd) [] (WE W) (liftA X.K W da) σ H Q := fun σ H Q ⟨env, M, q, E, H0, so, S, h, kq, kx⟩ =>
  goA so S h kx fun vs ds H1 H' M1 e1 so1 S1 rs ⟨hl, w⟩ kx1 => by
    rw [List.append_nil]
    exact ⟨ds, M1, q, E, H1, hl, rs, S1, w, kq.mono e1, kx1⟩
theorem pd_call (F : FnOk X.prog X.w X.K X.mg X.base (L2.CX X.prog X.w) k f fd ps (spOf X.K n sd)) (hr : Room k X.A) (hg : Gl X x) (hm : X.mg x = some (.ref f)) (hk : PySem.W.keepIn X.K (.ref f) = true) (hb : Binds X.K fd ps []) (tk : Takes X W)
    (ha : AD X W (e :: es) da) (hdb : (x == ("__debug__" : Str)) = false := by decide) (he : starEach (e :: es) X.env = (false, eval e X.env) :: starEach es X.env := by rfl) (hpl : (backTo pos (starEach es X.env)).any (·.1) = false := by rfl) :
    PD X W (.Call (.Name x p) (e :: es) [] pos) (dCall n sd da) := peImp (pe_callSD F hr hg hm hk hb .nil (fun σ => passAt tk σ) ha hdb he hpl) lift_call
theorem run_fnG {sp : Sp} {pins : List (Addr × Obj)} {σ : L2.St} {H : Hp} {s : Shared} {Q : VK} {us : List Value} {vs : List V} (F : FnG X.prog X.w X.K X.mg X.base k f fd ps sp) (hr : Room k X.A) (hgd : X.A.guards = some []) (hb : Binds X.K fd ps []) (tk : Takes X W)
    (I : Inv X pins σ H s) (r : Vals vs us) (h : sp vs H Q (WE W σ)) : wpAny (model X.prog X.w) X.A (call (.ref f) us) (EP X pins σ Q) X.xe s := by
  have hl : us.length = ps.length := by rw [← r.length]; exact F.len _ _ _ _ h
  have b2 := hb s us I.kIn (by rw [List.append_nil]; exact hl)
  rw [List.append_nil] at b2
  refine wpAny_call (codeAny_mono (F.run X.A X.stack s H ⟨us, []⟩ us vs Q (WE W σ) hr hgd I.env0 b2 r h) fun res s' out => ?_)
  cases res with
  | error e => exact passAt tk σ pins H s e s' I out
  | ok fl =>
    cases fl with
    | ret u => exact I.after out
    | next => exact out.elim
    | brk => exact out.elim
    | cont => exact out.elim
theorem pd_callG (F : FnG X.prog X.w X.K X.mg X.base k f fd ps (spOf X.K n sd)) (hr : Room k X.A) (hgd : X.A.guards = some []) (hg : Gl X x) (hm : X.mg x = some (.ref f)) (hk : PySem.W.keepIn X.K (.ref f) = true) (hb : Binds X.K fd ps []) (tk : Takes X W)
    (ha : AD X W (e :: es) da) (hdb : (x == ("__debug__" : Str)) = false := by decide) (he : starEach (e :: es) X.env = (false, eval e X.env) :: starEach es X.env := by rfl) (hpl : (backTo pos (starEach es X.env)).any (·.1) = false := by rfl) :
    PD X W (.Call (.Name x p) (e :: es) [] pos) (dCall n sd da) := by
  constructor
  intro pins s σ H Q I ⟨env, M, q, E, H0, so, S, h, kq, kx⟩
  refine wpAny_Call_Name_kw (ld_glob I hg hm ?_ hdb)
  refine PySem.W.callWith_K (h₀ := X.base) I.ok.mod.kin hk (wpAny_mono (PA.run ha pos pins s σ H _ I (goA (Q := fun vs H' => spOf X.K n sd vs H' Q (WE W σ)) so S h kx fun vs ds H1 H' M1 e1 so1 S1 rs ⟨hl, w⟩ kx1 => ⟨ds, M1, q, E, H1, hl, rs, S1, w, kq.mono e1, kx1⟩)) (fun us s1 out => ?_) fun _ _ z => z) he hpl
  obtain ⟨vs, H1, I1, r, q1⟩ := out
  exact ⟨I1.kIn, run_fnG F hr hgd hb tk I1 r q1⟩
end
end DL
set_option maxRecDepth 100000
set_option maxHeartbeats 4000000
namespace DL
open PySem PySem.Spec PyProof.Rows L2
section
variable {X : Cx} {W : WX}
/-- cell.append(e) -/
@[reducible] def dApp (do_ : DE) (da : DA) : DE := fun env M q E => do_ env M (fun o M1 => ∃ c zs, o = .cel c ∧ M1 c = some (.ls zs) ∧ da env M1 (fun ds M2 => ∃ ys y, ds = [y] ∧ M2 c = some (.ls ys) ∧ ys.length < sizeLine ∧ q .non (mset M2 c (.ls (ys ++ [y])))) E) E
theorem pd_app {o e : Expr} {do_ : DE} {da : DA} {apos cpos : Pos} (ho : PD X W o do_) (ha : AD X W [e] da) (hbase : attributeBase o "append" X.env (eval o X.env) = eval o X.env := by rfl)
    (hfew : ((backTo cpos (starEach (e :: []) X.env)).all (fun x => !x.1) && (backToKw cpos (keywordEach [] X.env)).all (fun x => x.1.isSome) && decide ((e :: []).length + ([] : List Keyword).length + (if ([] : List Keyword).isEmpty then 0 else 1) < 30)) = true := by rfl)
    (hline : (apos.endLine == cpos.line) = true := by rfl) (hs : starEach [e] X.env = (false, eval e X.env) :: starEach [] X.env := by rfl) (hpl : (backTo cpos (starEach [] X.env)).any (·.1) = false := by rfl) : PD X W (.Call (.Attribute o "append" apos) [e] [] cpos) (dApp do_ da) :=
  peImp (pe_bm PySem.F.plainAttrs_list PySem.F.slot_list_append PySem.F.type_list_append mt_append ho ha hbase hfew hline hs hpl) fun σ H Q ⟨env, M, q, E, H0, so, S, h, k, kx⟩ =>
    goE so S h kx fun x dx H1 H' M1 e1 so1 S1 rx ⟨c, zs, ec, em, h1⟩ kx1 => by
      subst ec
      cases rx
      obtain ⟨_, us, hu, _⟩ := S1.cell c zs em
      refine ⟨.inl ⟨rfl, us, SqL.of hu⟩, goA so1 S1 h1 kx1 fun xs ds H2 H'' M2 e2 so2 S2 rs ⟨ys, y, ed, em2, hl, w⟩ kx2 => ?_⟩
      subst ed
      obtain ⟨v, rfl, rv⟩ := dnl1 rs
      obtain ⟨_, vs, hv, r⟩ := S2.cell c ys em2
      exact ⟨c, vs, v, rfl, rfl, hv, by rw [r.length]; exact hl, k _ _ H2 _ _ (e1.trans e2) (S2.write em2 (r.app (.one rv))) .non w⟩
def strsD : List D → Option (List Str)
  | [] => some []
  | .str x :: ds => (strsD ds).map (x :: ·)
  | _ => none
theorem strs_dn {K : PySem.W.Frag} {H : Hp} : ∀ {ds : List D} {vs : List V} {bs : List Str}, DnL K H vs ds → strsD ds = some bs → vs = bs.map V.str
  | _, _, _, .nil, e => by cases e; rfl
  | _, _, _, .cons (d := .str b) h r, e => by
    obtain ⟨cs, e1, rfl⟩ := omap (show (strsD _).map (b :: ·) = some _ from e)
    rw [h.inv_str, strs_dn r e1]; rfl
  | _, _, _, .cons (d := .non) _ _, e | _, _, _, .cons (d := .int _) _ _, e | _, _, _, .cons (d := .bl _) _ _, e | _, _, _, .cons (d := .ty _) _ _, e | _, _, _, .cons (d := .lst _) _ _, e
  | _, _, _, .cons (d := .lsf _) _ _, e | _, _, _, .cons (d := .tup _) _ _, e | _, _, _, .cons (d := .dic _ _) _ _, e | _, _, _, .cons (d := .ins _ _ _) _ _, e | _, _, _, .cons (d := .cel _) _ _, e => by cases e
def intsD : List D → Option (List Int)
  | [] => some []
  | .int x :: ds => (intsD ds).map (x :: ·)
  | _ => none
theorem ints_dn {K : PySem.W.Frag} {H : Hp} : ∀ {ds : List D} {vs : List V} {bs : List Int}, DnL K H vs ds → intsD ds = some bs → vs = bs.map V.int
  | _, _, _, .nil, e => by cases e; rfl
  | _, _, _, .cons (d := .int b) h r, e => by
    obtain ⟨cs, e1, rfl⟩ := omap (show (intsD _).map (b :: ·) = some _ from e)
    rw [h.inv_int, ints_dn r e1]; rfl
  | _, _, _, .cons (d := .non) _ _, e | _, _, _, .cons (d := .str _) _ _, e | _, _, _, .cons (d := .bl _) _ _, e | _, _, _, .cons (d := .ty _) _ _, e | _, _, _, .cons (d := .lst _) _ _, e
  | _, _, _, .cons (d := .lsf _) _ _, e | _, _, _, .cons (d := .tup _) _ _, e | _, _, _, .cons (d := .dic _ _) _ _, e | _, _, _, .cons (d := .ins _ _ _) _ _, e | _, _, _, .cons (d := .cel _) _ _, e => by cases e
theorem dn_strs {K : PySem.W.Frag} {H : Hp} : ∀ xs : List Str, DnL K H (xs.map V.str) (xs.map D.str)
  | [] => .nil
  | x :: xs => .cons (.str x) (dn_strs xs)
theorem dn_ints {K : PySem.W.Frag} {H : Hp} : ∀ xs : List Int, DnL K H (xs.map V.int) (xs.map D.int)
  | [] => .nil
  | x :: xs => .cons (.int x) (dn_ints xs)
theorem ints_map : ∀ xs : List Int, intsD (xs.map D.int) = some xs
  | [] => rfl
  | x :: xs => by show (intsD (xs.map D.int)).map (x :: ·) = _; rw [ints_map xs]; rfl
theorem strs_map : ∀ xs : List Str, strsD (xs.map D.str) = some xs
  | [] => rfl
  | x :: xs => by show (strsD (xs.map D.str)).map (x :: ·) = _; rw [strs_map xs]; rfl
def rdSortI : RDL := fun ds M q => ∃ d xs ns, ds = [d] ∧ lsqOf M d = some xs ∧ intsD xs = some ns ∧ ∀ ns' : List Int, ns'.Perm ns → ns'.Pairwise (· ≤ ·) → q (.lst (ns'.map D.int)) M
theorem cd_sortI : CallD X (.builtin "sorted") rdSortI := ⟨_, cr_sortedI, fun H0 H M xs ds q Q S r w k => by
  obtain ⟨d, ys, ns, rfl, e, en, w⟩ := w
  obtain ⟨v, rfl, rv⟩ := dnl1 r
  obtain ⟨a, vs, rfl, hs, rs⟩ := S.lsq rv e
  have z := ints_dn rs en
  subst z
  exact ⟨a, ns, rfl, hs, fun ns' p h1 h2 hp => k.newL S (dn_ints _) (w ns' h1 h2) p hp⟩⟩
def rdMinL : RDL := fun ds M q => ∃ d xs ns, ds = [d] ∧ lsqOf M d = some xs ∧ intsD xs = some ns ∧ 0 < ns.length ∧ ∀ m, m ∈ ns → (∀ y, y ∈ ns → m ≤ y) → q (.int m) M
theorem cd_minL (hc : X.calm = true) : CallD X (.builtin "min") rdMinL := ⟨_, cr_min hc, fun H0 H M xs ds q Q S r w k => by
  obtain ⟨d, ys, ns, rfl, e, en, hl, w⟩ := w
  obtain ⟨v, rfl, rv⟩ := dnl1 r
  obtain ⟨a, vs, rfl, hs, rs⟩ := S.lsq rv e
  have z := ints_dn rs en
  subst z
  exact ⟨a, ns, rfl, hs, hl, fun m h1 h2 => k.here S (.int _) (w m h1 h2)⟩⟩
def keyD : D → Option Key
  | .int i => some (.inl i)
  | .str x => some (.inr x)
  | _ => none
theorem keyD_dn {K : PySem.W.Frag} {H : Hp} {v : V} {d : D} {k : Key} (h : Dn K H v d) (e : keyD d = some k) : v = kV k := by
  cases h <;> first
    | (cases e; rfl)
    | cases e
def getK (kvs : List (Key × D)) (k : Key) : Option D := (kvs.find? fun kv => decide (kv.1 = k)).map (·.2)
def setK (kvs : List (Key × D)) (k : Key) (v : D) : List (Key × D) := if (kvs.any fun kv => decide (kv.1 = k)) = true then kvs.map (fun kv => if kv.1 = k then (kv.1, v) else kv) else kvs ++ [(k, v)]
theorem KvL.length {K : PySem.W.Frag} {H : Hp} : ∀ {r : List (Key × V)} {s : List (Key × D)}, KvL K H r s → r.length = s.length
  | _, _, .nil => rfl
  | _, _, .cons _ b => congrArg (· + 1) (KvL.length b)
theorem KvL.get {K : PySem.W.Frag} {H : Hp} {k : Key} : ∀ {r : List (Key × V)} {s : List (Key × D)}, KvL K H r s → (getK s k = none ∧ valV r k = none) ∨ ∃ v d, getK s k = some d ∧ valV r k = some v ∧ Dn K H v d
  | _, _, .nil => .inl ⟨rfl, rfl⟩
  | _, _, .cons (k := k') (v := v) (d := d) a b => by
    by_cases e : k' = k
    · exact .inr ⟨v, d, by simp [getK, List.find?_cons, e], valV_pos e, a⟩
    · have ih := KvL.get (k := k) b
      have e1 : ∀ s, getK ((k', d) :: s) k = getK s k := fun s => by simp [getK, List.find?_cons, e]
      rw [valV_neg (p := (k', v)) e, e1]
      exact ih
theorem KvL.any {K : PySem.W.Frag} {H : Hp} {k : Key} : ∀ {r : List (Key × V)} {s : List (Key × D)}, KvL K H r s → (r.any fun kv => decide (kv.1 = k)) = s.any fun kv => decide (kv.1 = k)
  | _, _, .nil => rfl
  | _, _, .cons a b => by rw [List.any_cons, List.any_cons, KvL.any b]
theorem KvL.repl {K : PySem.W.Frag} {H : Hp} {k : Key} {v : V} {d : D} (h : Dn K H v d) : ∀ {r : List (Key × V)} {s : List (Key × D)}, KvL K H r s → KvL K H (r.map fun kv => if kv.1 = k then (kv.1, v) else kv) (s.map fun kv => if kv.1 = k then (kv.1, d) else kv)
  | _, _, .nil => .nil
  | _, _, .cons (k := k') a b => by
    rw [List.map_cons, List.map_cons]
    by_cases e : k' = k
    · rw [if_pos e, if_pos e]; exact .cons h (KvL.repl h b)
    · rw [if_neg e, if_neg e]; exact .cons a (KvL.repl h b)
theorem KvL.snoc {K : PySem.W.Frag} {H : Hp} {k : Key} {v : V} {d : D} (h : Dn K H v d) : ∀ {r : List (Key × V)} {s : List (Key × D)}, KvL K H r s → KvL K H (r ++ [(k, v)]) (s ++ [(k, d)])
  | _, _, .nil => .cons h .nil
  | _, _, .cons a b => .cons a (KvL.snoc h b)
theorem KvL.put {K : PySem.W.Frag} {H : Hp} {k : Key} {v : V} {d : D} {r : List (Key × V)} {s : List (Key × D)} (b : KvL K H r s) (h : Dn K H v d) : KvL K H (putK r k v) (setK s k d) := by
  unfold putK setK
  rw [KvL.any b]
  split
  · exact KvL.repl h b
  · exact KvL.snoc h b
theorem SD.dict {K : PySem.W.Frag} {H0 H : Hp} {M : Mem} (S : SD K H0 H M) {c : Addr} {s : List (Key × D)} (h : M c = some (.dc s)) : H0 c = none ∧ ∃ r, H c = some (.dK r) ∧ KvL K H0 r s := S.any c _ h
/-- d[k], there -/
@[reducible] def dDGet (dd dk : DE) : DE := fun env M q E => dd env M (fun o M1 => dk env M1 (fun y M2 => ∃ c s k v, o = .cel c ∧ M2 c = some (.dc s) ∧ keyD y = some k ∧ getK s k = some v ∧ q v M2) E) E
theorem pd_dget {o i : Expr} {dd dk : DE} {pos : Pos} (hu : X.A.units + 1 < cLine) (ho : PD X W o dd) (hi : PD X W i dk) (hs : NoSl i) : PD X W (.Subscript o i pos) (dDGet dd dk) := peImp (pe_dget hu ho hi hs) fun σ H Q ⟨env, M, q, E, H0, so, S, h, k, kx⟩ =>
  goE so S h kx fun x dx H1 H' M1 e1 so1 S1 rx h1 kx1 => goE so1 S1 h1 kx1 fun y dy H2 H'' M2 e2 so2 S2 ry ⟨c, s, kk, d, ec, em, ek, eg, w⟩ kx2 => by
    subst ec
    cases rx
    have z := keyD_dn ry ek
    subst z
    obtain ⟨_, r, hr, kv⟩ := S2.dict em
    rcases kv.get (k := kk) with ⟨g1, _⟩ | ⟨v, d', g1, g2, rv⟩
    · rw [eg] at g1; cases g1
    · rw [eg] at g1; cases g1
      exact ⟨c, v, rfl, by rw [← g2]; exact DGet.k hr, k _ _ H2 _ _ (e1.trans e2) S2 rv w⟩
/-- d.get(k, x) -/
@[reducible] def dDGet2 (dd dk dx : DE) : DE := fun env M q E => dd env M (fun o M1 => ∃ c s0, o = .cel c ∧ M1 c = some (.dc s0) ∧ dk env M1 (fun y M2 => dx env M2 (fun z M3 => ∃ s k, M3 c = some (.dc s) ∧ keyD y = some k ∧ q ((getK s k).getD z) M3) E) E) E
theorem pd_dget2 {o e f : Expr} {dd dk dx : DE} {apos cpos : Pos} (hu : X.A.units + 1 < cLine) (ho : PD X W o dd) (he : PD X W e dk) (hf : PD X W f dx) (m : M2 X o "get" apos e f cpos) : PD X W (.Call (.Attribute o "get" apos) [e, f] [] cpos) (dDGet2 dd dk dx) :=
  peImp (pe_dget2 hu ho he hf m) fun σ H Q ⟨env, M, q, E, H0, so, S, h, k, kx⟩ => goE so S h kx fun x dx H1 H' M1 e1 so1 S1 rx ⟨c, s0, ec, em0, h1⟩ kx1 => by
    subst ec
    cases rx
    obtain ⟨_, r0, hr0, _⟩ := S1.dict em0
    refine ⟨c, rfl, .inl ⟨r0, .inl hr0⟩, goE so1 S1 h1 kx1 fun y dy H2 H'' M2 e2 so2 S2 ry h2 kx2 => goE so2 S2 h2 kx2 fun z dz H3 H3' M3 e3 so3 S3 rz ⟨s, kk, em, ek, w⟩ kx3 => ?_⟩
    have zz := keyD_dn ry ek
    subst zz
    obtain ⟨_, r, hr, kv⟩ := S3.dict em
    have e13 := (e1.trans e2).trans e3
    rcases kv.get (k := kk) with ⟨g1, g2⟩ | ⟨v, d', g1, g2, rv⟩
    · rw [g1] at w
      exact ⟨none, by rw [← g2]; exact DGet.k hr, k _ _ H3 _ _ e13 S3 rz w⟩
    · rw [g1] at w
      exact ⟨some v, by rw [← g2]; exact DGet.k hr, k _ _ H3 _ _ e13 S3 rv w⟩
end
/-- a def that may be called: level k, n arguments -/
def Fok (P : Program) (w : World) (K : PySem.W.Frag) (mg : Str → Option Value) (base : Heap) (x : Str) (k n : Nat) (sd : SpD) : Prop :=
  ∃ (f : Addr) (fd : FuncData) (ps : List Str), mg x = some (.ref f) ∧ PySem.W.keepIn K (.ref f) = true ∧ Binds K fd ps [] ∧ FnOk P w K mg base (L2.CX P w) k f fd ps (spOf K n sd)
def Fgd (P : Program) (w : World) (K : PySem.W.Frag) (mg : Str → Option Value) (base : Heap) (x : Str) (k n : Nat) (sd : SpD) : Prop :=
  ∃ (f : Addr) (fd : FuncData) (ps : List Str), mg x = some (.ref f) ∧ PySem.W.keepIn K (.ref f) = true ∧ Binds K fd ps [] ∧ FnG P w K mg base k f fd ps (spOf K n sd)
section
variable {X : Cx} {W : WX} {k n : Nat} {sd : SpD} {x : Str} {p pos : Pos} {e : Expr} {es : List Expr} {da : DA}
theorem pd_fn (F : Fok X.prog X.w X.K X.mg X.base x k n sd) (hr : Room k X.A) (tk : Takes X W) (ha : AD X W (e :: es) da) (hg : Gl X x := by rfl) (hdb : (x == ("__debug__" : Str)) = false := by decide)
    (he : starEach (e :: es) X.env = (false, eval e X.env) :: starEach es X.env := by rfl) (hpl : (backTo pos (starEach es X.env)).any (·.1) = false := by rfl) : PD X W (.Call (.Name x p) (e :: es) [] pos) (dCall n sd da) := by
  obtain ⟨f, fd, ps, hm, hk, hb, F⟩ := F
  exact pd_call F hr hg hm hk hb tk ha hdb he hpl
theorem pd_fg (F : Fgd X.prog X.w X.K X.mg X.base x k n sd) (hr : Room k X.A) (hgd : X.A.guards = some []) (tk : Takes X W) (ha : AD X W (e :: es) da) (hg : Gl X x := by rfl) (hdb : (x == ("__debug__" : Str)) = false := by decide)
    (he : starEach (e :: es) X.env = (false, eval e X.env) :: starEach es X.env := by rfl) (hpl : (backTo pos (starEach es X.env)).any (·.1) = false := by rfl) : PD X W (.Call (.Name x p) (e :: es) [] pos) (dCall n sd da) := by
  obtain ⟨f, fd, ps, hm, hk, hb, F⟩ := F
  exact pd_callG F hr hgd hg hm hk hb tk ha hdb he hpl
end
theorem Fok.g {P : Program} {w : World} {K : PySem.W.Frag} {mg : Str → Option Value} {base : Heap} {x : Str} {k n : Nat} {sd : SpD} (h : Fok P w K mg base x k n sd) : Fgd P w K mg base x k n sd := by
  obtain ⟨f, fd, ps, a, b, c, d⟩ := h
  exact ⟨f, fd, ps, a, b, c, .of d⟩
/-- what a body may let out, it lets out -/
theorem tkF {P : Program} {w : World} {K : PySem.W.Frag} {mg : Str → Option Value} {base : Heap} {N : List Str} {qual : Str} {scope : Scope} {f : Addr} {cd : Value} {A : Around} {fr : List Env} {s : Shared} {H : Hp} {E : XK} :
    Takes (cxOf (L2.CX P w) P w K mg base N qual scope f cd A fr s H E) (fun c d _ H => E c d H) := takes_of rfl rfl rfl rfl
theorem poF {P : Program} {w : World} {K : PySem.W.Frag} {mg : Str → Option Value} {base : Heap} {N : List Str} {qual : Str} {scope : Scope} {f : Addr} {cd : Value} {A : Around} {fr : List Env} {s : Shared} {H : Hp} {E : XK} :
    PassesOwn (model (cxOf (L2.CX P w) P w K mg base N qual scope f cd A fr s H E).prog (cxOf (L2.CX P w) P w K mg base N qual scope f cd A fr s H E).w) (cxOf (L2.CX P w) P w K mg base N qual scope f cd A fr s H E).A
      (cxOf (L2.CX P w) P w K mg base N qual scope f cd A fr s H E).env (cxOf (L2.CX P w) P w K mg base N qual scope f cd A fr s H E).xe := passes_of rfl
end DL
set_option maxRecDepth 100000
set_option maxHeartbeats 4000000
namespace DL
open PySem PySem.Spec PyProof.Rows L2
@[reducible] def dNever : DS := fun _ _ _ => False
section
variable {X : Cx} {W : WX}
theorem sd_never {st : Stmt} : SDt X W st dNever := ⟨fun pins s σ H D I ⟨env, M, d, H0, so, S, h, k⟩ => h.elim⟩
end
theorem KvL.lk {K : PySem.W.Frag} {H : Hp} {k : Str} : ∀ {r : List (Str × V)} {s : List (Str × D)}, KvL K H r s → (s.lookup k = none ∧ r.lookup k = none) ∨ ∃ v d, s.lookup k = some d ∧ r.lookup k = some v ∧ Dn K H v d
  | _, _, .nil => .inl ⟨rfl, rfl⟩
  | _, _, .cons (k := k') (v := v) (d := d) a b => by
    rw [List.lookup_cons, List.lookup_cons]
    cases e : k == k' with
    | true => exact .inr ⟨v, d, rfl, rfl, a⟩
    | false => exact KvL.lk b
theorem KvL.of {K : PySem.W.Frag} {H : Hp} : ∀ {r : List (Str × V)} {ds : List D}, DnL K H (r.map (·.2)) ds → KvL K H r ((r.map (·.1)).zip ds)
  | [], _, h => by cases h; exact .nil
  | (k, v) :: r, _, h => by
    cases h with
    | cons a b => exact .cons a (KvL.of b)
theorem KvL.split {K : PySem.W.Frag} {H : Hp} : ∀ {r : List (Str × V)} {s : List (Str × D)}, KvL K H r s → r.map (·.1) = s.map (·.1) ∧ DnL K H (r.map (·.2)) (s.map (·.2))
  | _, _, .nil => ⟨rfl, .nil⟩
  | _, _, .cons (k := k) a b => by
    obtain ⟨h1, h2⟩ := KvL.split b
    exact ⟨by rw [List.map_cons, List.map_cons, h1], .cons a h2⟩
/-- its fields -/
def fsOf (M : Mem) (C : Addr) : D → Option (List (Str × D))
  | .ins C' ns vs => if C' = C then some (ns.zip vs) else none
  | .cel c => match M c with
    | some (.ob C' fs) => if C' = C then some fs else none
    | _ => none
  | _ => none
theorem SD.obj {K : PySem.W.Frag} {H0 H : Hp} {M : Mem} (S : SD K H0 H M) {v : V} {d : D} {C : Addr} {fs : List (Str × D)} (h : Dn K H0 v d) (e : fsOf M C d = some fs) : ∃ a dx fvs, v = .ref a ∧ H a = some (.ins C dx fvs) ∧ KvL K H0 fvs fs := by
  cases h with
  | @ins a C' dx fvs ds q r =>
    have e' : (if C' = C then some ((fvs.map (·.1)).zip ds) else none) = some fs := e
    by_cases c : C' = C
    · subst c; rw [if_pos rfl] at e'; cases e'
      exact ⟨a, dx, fvs, rfl, S.ex _ _ q, .of r⟩
    · rw [if_neg c] at e'; cases e'
  | cel a =>
    have e' : (match M a with | some (.ob C' fs) => if C' = C then some fs else none | _ => none) = some fs := e
    split at e'
    · rename_i C' fs' hm
      by_cases c : C' = C
      · subst c; rw [if_pos rfl] at e'; cases e'
        obtain ⟨_, dx, fvs, q, r⟩ := S.any a _ hm
        exact ⟨a, dx, fvs, rfl, q, r⟩
      · rw [if_neg c] at e'; cases e'
    · cases e'
  | _ => cases e
def putD (f : Str) (v : D) : List (Str × D) → List (Str × D)
  | [] => [(f, v)]
  | (g, x) :: r => if g = f then (g, v) :: r else (g, x) :: putD f v r
theorem KvL.putF {K : PySem.W.Frag} {H : Hp} {f : Str} {v : V} {d : D} (h : Dn K H v d) : ∀ {r : List (Str × V)} {s : List (Str × D)}, KvL K H r s → KvL K H (L2.putF f v r) (putD f d s)
  | _, _, .nil => .cons h .nil
  | _, _, .cons (k := g) a b => by
    unfold L2.putF putD
    by_cases e : g = f
    · rw [if_pos e, if_pos e]; exact .cons h b
    · rw [if_neg e, if_neg e]; exact .cons a (KvL.putF h b)
theorem KvL.len {α : Type} {K : PySem.W.Frag} {H : Hp} : ∀ {r : List (α × V)} {s : List (α × D)}, KvL K H r s → r.length = s.length
  | _, _, .nil => rfl
  | _, _, .cons _ b => congrArg (· + 1) (KvL.len b)
theorem SD.freezeO {K : PySem.W.Frag} {H0 H : Hp} {M : Mem} {c C : Addr} {fs : List (Str × D)} (S : SD K H0 H M) (h : M c = some (.ob C fs)) : ∃ o, H0 c = none ∧ SD K (upd H0 c o) H (mdel M c) ∧ Dn K (upd H0 c o) (.ref c) (.ins C (fs.map (·.1)) (fs.map (·.2))) := by
  obtain ⟨n0, dx, fvs, e1, r⟩ := S.any c _ h
  obtain ⟨en, er⟩ := r.split
  refine ⟨.ins C dx fvs, n0, ⟨fun a o q => ?_, fun b ys q => ?_⟩, ?_⟩
  · by_cases z : a = c
    · subst z; rw [upd_same] at q; cases q; exact e1
    · rw [upd_ne z] at q; exact S.ex a o q
  · unfold mdel at q
    by_cases z : b = c
    · rw [if_pos z] at q; cases q
    · rw [if_neg z] at q
      obtain ⟨n1, ok⟩ := S.any b ys q
      exact ⟨by rw [upd_ne z]; exact n1, ok.same (Ext.add n0) rfl⟩
  · rw [← en]
    exact .ins upd_same (er.mono (Ext.add n0))
section
variable {X : Cx} {W : WX}
@[reducible] def dFld (C : Addr) (f : Str) (de : DE) : DE := fun env M q E => de env M (fun o M1 => ∃ fs v, fsOf M1 C o = some fs ∧ fs.lookup f = some v ∧ q v M1) E
theorem pd_fld {e : Expr} {f : Str} {pos : Pos} {de : DE} {C : Addr} (he : PD X W e de) (c : Cls X.K C) (n : NoAttr X.K C f) (hb : attributeBase e f X.env (eval e X.env) = eval e X.env := by rfl) : PD X W (.Attribute e f pos) (dFld C f de) :=
  peImp (pe_fld he hb) fun σ H Q ⟨env, M, q, E, H0, so, S, h, k, kx⟩ => goE so S h kx fun x dx H1 H' M1 e1 so1 S1 rx ⟨fs, v, ef, el, w⟩ kx1 => by
    obtain ⟨a, d, fvs, rfl, q1, r⟩ := S1.obj rx ef
    rcases r.lk (k := f) with ⟨z, _⟩ | ⟨v', d', z, z2, rv⟩
    · rw [el] at z; cases z
    · rw [el] at z; cases z
      exact ⟨a, C, d, fvs, v', rfl, q1, c, n, z2, k _ _ H1 _ _ e1 S1 rv w⟩
@[reducible] def dFSet (C : Addr) (f : Str) (do_ dv : DE) : DS := fun d env M => dv env M (fun v M1 => do_ env M1 (fun o M2 => ∃ c fs, o = .cel c ∧ M2 c = some (.ob C fs) ∧ fs.length < 1000 ∧ d.nx env (mset M2 c (.ob C (putD f v fs)))) (d.ex env)) (d.ex env)
theorem sd_fset {o value : Expr} {f : Str} {pos pos' : Pos} {do_ dv : DE} {C : Addr} (ho : PD X W o do_) (c : Cls X.K C) (n : NoAttr X.K C f) (hv : PD X W value dv) (hs : swapsWith value (some (.Attribute o f pos')) pos.line X.env = pure false := by rfl) : SDt X W (.Assign [.Attribute o f pos'] value pos) (dFSet C f do_ dv) :=
  psImp (ps_fld ho hv hs) fun D σ H ⟨env, M, d, H0, so, S, h, k⟩ => goE so S h (k.ex.at so) fun x dx H1 H' M1 e1 so1 S1 rx h1 kx1 => goE so1 S1 h1 kx1 fun y dy H2 H'' M2 e2 so2 S2 ry ⟨p, fs, ec, em, hl, w⟩ kx2 => by
    subst ec
    cases ry
    obtain ⟨n0, d', fvs, q, r⟩ := S2.any p _ em
    exact ⟨p, C, d', fvs, rfl, q, c, n, by rw [r.len]; exact hl, k.nx _ _ H2 _ _ (e1.trans e2) so2 (S2.put (x := .ob C (putD f dx fs)) n0 fun _ e => ⟨d', _, e, r.putF (rx.mono e2)⟩) w⟩
/-- a method that may be called -/
def Mok (P : Program) (w : World) (K : PySem.W.Frag) (mg : Str → Option Value) (base : Heap) (C : Addr) (m : Str) (k n : Nat) (sd : SpD) : Prop :=
  Cls K C ∧ ∃ (f : Addr) (fd : FuncData) (ps : List Str), Meth K C m f ∧ PySem.W.fnIn K f = true ∧ Binds K fd ps [] ∧ FnOk P w K mg base (L2.CX P w) k f fd ps (spOf K n sd)
@[reducible] def dMeth (C : Addr) (m : Str) (n : Nat) (sd : SpD) (do_ : DE) (da : DA) : DE := fun env M q E => do_ env M (fun o M1 => ∃ fs, fsOf M1 C o = some fs ∧ fs.lookup m = none ∧ da env M1 (fun ds M2 => ds.length + 1 = n ∧ sd (o :: ds) M2 q E) E) E
theorem KvL.no {K : PySem.W.Frag} {H : Hp} {k : Str} {r : List (Str × V)} {s : List (Str × D)} (b : KvL K H r s) (h : s.lookup k = none) : r.lookup k = none := by
  rcases b.lk (k := k) with ⟨_, z⟩ | ⟨v, d, z, _, _⟩
  · exact z
  · rw [h] at z; cases z
theorem pd_meth {k n : Nat} {C : Addr} {m : Str} {sd : SpD} {o e : Expr} {es : List Expr} {do_ : DE} {da : DA} {apos pos : Pos} {pl : Sem Bool} (F : Mok X.prog X.w X.K X.mg X.base C m k n sd) (hr : Room k X.A) (tk : Takes X W) (ho : PD X W o do_) (ha : AD X W (e :: es) da)
    (hst : starEach (e :: es) X.env = (false, eval e X.env) :: starEach es X.env := by rfl) (hpl : (backTo pos (starEach es X.env)).any (·.1) = false := by rfl)
    (ht : eval (.Call (.Attribute o m apos) (e :: es) [] pos) X.env = (do
      let ov ← eval o X.env
      standAt apos.atName
      let (f, first) ← holding [ov] (getMethod ov m pl)
      callWith pos f first (backTo pos (starEach (e :: es) X.env)) (backToKw pos (keywordEach [] X.env))) := by rfl) : PD X W (.Call (.Attribute o m apos) (e :: es) [] pos) (dMeth C m n sd do_ da) := by
  obtain ⟨c, f, fd, ps, hm, _, hb, F⟩ := F
  constructor
  intro pins s σ H Q I ⟨env, M, q, E, H0, so, S, h, kq, kx⟩
  refine PySem.W.methodCall_KW (pl := pl) (wpAny_mono (PE.run ho pins s σ H (fun x H1 => ∃ a dx fs, x = .ref a ∧ H1 a = some (.ins C dx fs) ∧ fs.lookup m = none ∧ liftA X.K W da σ H1 fun vs H2 => spOf X.K n sd (x :: vs) H2 Q (WE W σ)) I
    (goE so S h kx fun x dx H1 H' M1 e1 so1 S1 rx ⟨fs, ef, el, w⟩ kx1 => ?_)) (fun u s1 ⟨x, H1, I1, rx, a, dx, fs, ex, ea, l, q1⟩ => ?_) fun _ _ z => z) ht
  · obtain ⟨a, dd, fvs, rfl, q1, r⟩ := S1.obj rx ef
    exact ⟨a, dd, fvs, rfl, q1, r.no el, goA so1 S1 w kx1 fun vs ds H2 H'' M2 e2 so2 S2 rs ⟨hl, w2⟩ kx2 => ⟨dx :: ds, M2, q, E, H2, hl, .cons (rx.mono e2) rs, S2, w2, kq.mono (e1.trans e2), kx2⟩⟩
  · subst ex
    obtain rfl : u = Value.ref a := rx
    refine getmeth_ok I1 ea c hm l ?_
    refine PySem.W.callWith_K (first := [.ref a]) (h₀ := X.base) I.ok.mod.kin hm.kp (wpAny_mono (PA.run (t := liftA X.K W da) ha pos pins s1 σ H1 _ I1 q1) (fun us s2 ⟨vs, H2, I2, r, q2⟩ => ⟨I2.kIn, ?_⟩) fun _ _ z => z) hst hpl
    exact run_fnSD (E := WE W) (us := .ref a :: us) (vs := .ref a :: vs) F hr hb .nil (passAt tk σ) I2 (.cons rfl r) (by rw [List.append_nil]; exact q2)
/-- o[i], own __getitem__ -/
@[reducible] def dItem (C : Addr) (sd : SpD) (do_ di : DE) : DE := fun env M q E => do_ env M (fun o M1 => di env M1 (fun i M2 => ∃ fs, fsOf M2 C o = some fs ∧ sd [o, i] M2 q E) E) E
theorem pd_item {k : Nat} {C : Addr} {sd : SpD} {o i : Expr} {do_ di : DE} {pos : Pos} (F : Mok X.prog X.w X.K X.mg X.base C "__getitem__" k 2 sd) (hr : Room (k + 1) X.A) (tk : Takes X W) (ho : PD X W o do_) (hi : PD X W i di)
    (hs : ∀ a u, subscripted i true (.ref a) u = runValue (.builtin "lifetime.subscript" ⟨[.ref a, u], []⟩) := by intro _ _; with_unfolding_all rfl) : PD X W (.Subscript o i pos) (dItem C sd do_ di) := by
  obtain ⟨c, f, fd, ps, hm, hfn, hb, F⟩ := F
  constructor
  intro pins s σ H Q I ⟨env, M, q, E, H0, so, S, h, kq, kx⟩
  refine Subscript_ (binT (R := fun x y H1 => ∃ a dx fs, x = .ref a ∧ H1 a = some (.ins C dx fs) ∧ spOf X.K 2 sd [x, y] H1 Q (WE W σ)) ho hi I ?_ ?_)
  · exact goE so S h kx fun x dx H1 H' M1 e1 so1 S1 rx h1 kx1 => goE so1 S1 h1 kx1 fun y dy H2 H'' M2 e2 so2 S2 ry ⟨fs, ef, w⟩ kx2 => by
      obtain ⟨a, dd, fvs, rfl, q1, r⟩ := S2.obj (rx.mono e2) ef
      exact ⟨a, dd, fvs, rfl, q1, [dx, dy], M2, q, E, H2, rfl, .cons (rx.mono e2) (.cons ry .nil), S2, w, kq.mono (e1.trans e2), kx2⟩
  · intro v u s2 x y H2 I2 rx ry hh
    obtain ⟨a, dx, fs, ex, ea, hsp⟩ := hh
    subst ex
    obtain rfl : v = Value.ref a := rx
    obtain ⟨mA, J, _⟩ := ins_get I2.hok ea
    obtain ⟨od, J, _⟩ := J.look
    obtain ⟨m, hF⟩ := I2.fr
    refine PySem.W.sub_K hF I2.ok.mod.kin J hm.at_ hfn hm.fn ?_ (hs _ _)
    have e0 : Env0 X.prog X.w X.K X.mg X.base X.A.in1 X.stack s2 H2 := by
      have e := I2.env0
      exact ⟨e.frames, e.mod, e.bs, e.bsz, e.funs, e.frf, e.hok, e.bare⟩
    have r2 : Vals [V.ref a, y] [Value.ref a, u] := .cons rfl (.cons ry .nil)
    have hl := F.len _ _ _ _ hsp
    refine wpAny_call (codeAny_mono (F.run X.A.in1 X.stack s2 H2 ⟨[.ref a, u], []⟩ [.ref a, u] [.ref a, y] Q (WE W σ) hr.in1 e0 (by
      have := hb s2 [.ref a, u] I2.kIn (by simpa using hl)
      simpa using this) r2 hsp) fun res s' out => ?_)
    cases res with
    | error e => exact passAt tk σ pins H2 s2 e s' I2 out
    | ok fl =>
      cases fl with
      | ret u => exact I2.after out
      | next => exact out.elim
      | brk => exact out.elim
      | cont => exact out.elim
/-- C(e, ..), an object that changes no more behind its __init__ -/
def Kok (P : Program) (w : World) (K : PySem.W.Frag) (mg : Str → Option Value) (base : Heap) (x : Str) (C : Addr) (k n : Nat) (sd : SpD) : Prop :=
  ∃ (f : Addr) (fd : FuncData) (ps : List Str), mg x = some (.ref C) ∧ Mk K C f ∧ Binds K fd ps [] ∧ FnOk P w K mg base (L2.CX P w) k f fd ps (spOf K n sd)
@[reducible] def dMake (C : Addr) (n : Nat) (sd : SpD) (da : DA) : DE := fun env M q E => da env M (fun ds M1 => ds.length + 1 = n ∧ ∀ c, M1 c = none → sd (.cel c :: ds) (mset M1 c (.ob C [])) (fun v M2 => v = .non ∧ ∃ fs, M2 c = some (.ob C fs) ∧ q (.ins C (fs.map (·.1)) (fs.map (·.2))) (mdel M2 c)) E) E
theorem made_D {K : PySem.W.Frag} {H0 H : Hp} {M : Mem} {x dx C : Addr} (S : SD K H0 H M) (hx : H x = none) (hd : H dx = none) (ne : dx ≠ x) : SD K H0 (upd (upd H dx (.own x)) x (.ins C dx [])) (mset M x (.ob C [])) := by
  have S1 : SD K H0 (upd H dx (.own x)) M := S.aside hd
  exact S1.put (S.fresh hx).1 fun _ e => ⟨dx, [], e, .nil⟩
theorem run_makeD {k n : Nat} {C f : Addr} {fd : FuncData} {ps : List Str} {sd : SpD} {pins : List (Addr × Obj)} {σ : L2.St} {H : Hp} {s : Shared} {Q : VK} {us : List Value} {vs : List V} (Mm : Mk X.K C f) (F : FnOk X.prog X.w X.K X.mg X.base (L2.CX X.prog X.w) k f fd ps (spOf X.K n sd))
    (hr : Room (k + 1) X.A) (hb : Binds X.K fd ps []) (tk : Takes X W) (I : Inv X pins σ H s) (r : Vals vs us)
    (h : ∀ x dx, H x = none → H dx = none → dx ≠ x → spOf X.K n sd (.ref x :: vs) (upd (upd H dx (.own x)) x (.ins C dx [])) (fun v H2 => v = .non ∧ Q (.ref x) H2) (WE W σ)) :
    wpAny (model X.prog X.w) X.A (call (.ref C) us) (EP X pins σ Q) X.xe s := by
  have hq := h (s.heap.objs.size + 1) s.heap.objs.size (I.hok.fresh (Nat.le_succ _)) (I.hok.fresh (Nat.le_refl _)) (Nat.ne_of_lt (Nat.lt_succ_self _))
  have I2 := Inv.made (C := C) I
  have r2 : Vals (V.ref (s.heap.objs.size + 1) :: vs) (Value.ref (s.heap.objs.size + 1) :: us) := .cons rfl r
  have hl : (Value.ref (s.heap.objs.size + 1) :: us ++ []).length = ps.length := by
    rw [List.append_nil]
    have e := r2.length
    rw [F.len _ _ _ _ hq] at e
    exact e.symm
  have hbb := hb _ (Value.ref (s.heap.objs.size + 1) :: us) I2.kIn hl
  rw [List.append_nil] at hbb
  refine wpAny_call (make_map (f := f) I.kIn Mm.makes Mm.init (beq_iff_eq.mp Mm.fn) (codeAny_mono (F.run _ X.stack _ _ ⟨Value.ref (s.heap.objs.size + 1) :: us, []⟩ (Value.ref (s.heap.objs.size + 1) :: us) _ _ (WE W σ) (hr.make C us [])
    (I2.env0.make C us []) hbb r2 hq) fun r s' hq' => ?_))
  cases r with
  | error e => exact passAt tk σ pins _ _ e s' I2 hq'
  | ok fl =>
    cases fl with
    | ret u =>
      obtain ⟨v, H', I3, rv, ev, q3⟩ := I2.after hq'
      subst ev
      exact ⟨rv, ⟨V.ref (s.heap.objs.size + 1), H', I3, rfl, q3⟩⟩
    | next => exact False.elim hq'
    | brk => exact False.elim hq'
    | cont => exact False.elim hq'
theorem pd_make {k n : Nat} {C : Addr} {x : Str} {sd : SpD} {e : Expr} {es : List Expr} {da : DA} {p pos : Pos} (F : Kok X.prog X.w X.K X.mg X.base x C k n sd) (hr : Room (k + 1) X.A) (tk : Takes X W) (ha : AD X W (e :: es) da) (hg : Gl X x := by rfl)
    (hdb : (x == ("__debug__" : Str)) = false := by decide) (he : starEach (e :: es) X.env = (false, eval e X.env) :: starEach es X.env := by rfl) (hpl : (backTo pos (starEach es X.env)).any (·.1) = false := by rfl) : PD X W (.Call (.Name x p) (e :: es) [] pos) (dMake C n sd da) := by
  obtain ⟨f, fd, ps, hm, Mm, hb, F⟩ := F
  constructor
  intro pins s σ H Q I ⟨env, M, q, E, H0, so, S, h, kq, kx⟩
  refine wpAny_Call_Name_kw (ld_glob I hg hm ?_ hdb)
  refine PySem.W.callWith_K (h₀ := X.base) I.ok.mod.kin Mm.kp (wpAny_mono (PA.run ha pos pins s σ H (fun vs H1 => ∀ x dx, H1 x = none → H1 dx = none → dx ≠ x → spOf X.K n sd (.ref x :: vs) (upd (upd H1 dx (.own x)) x (.ins C dx [])) (fun v H2 => v = .non ∧ Q (.ref x) H2) (WE W σ)) I
    (goA so S h kx fun vs ds H1 H' M1 e1 so1 S1 rs ⟨hl, w⟩ kx1 x dx hx hd ne => ?_)) (fun us s1 ⟨vs, H1, I1, r, q1⟩ => ⟨I1.kIn, run_makeD Mm F hr hb tk I1 r q1⟩) fun _ _ z => z) he hpl
  refine ⟨.cel x :: ds, _, _, E, H1, hl, .cons (.cel x) rs, made_D S1 hx hd ne, w x (S1.fresh hx).2, fun v d H2 H2' M2 e2 S2 rv ⟨ev, fs, em, z⟩ => ?_, kx1⟩
  subst ev
  refine ⟨rv.inv_non, ?_⟩
  obtain ⟨o, n0, S3, r3⟩ := S2.freezeO em
  exact kq _ _ _ H2' _ ((e1.trans e2).trans (Ext.add n0)) S3 r3 z
def KD (X : Cx) (W : WX) (kws : List Keyword) (da : DA) : Prop := PK X kws (liftA X.K W da)
theorem pkImp {kws : List Keyword} {t t' : TA} (h : PK X kws t) (i : ∀ σ H Q, t' σ H Q → t σ H Q) : PK X kws t' := ⟨fun pos pins s σ H Q I q => h.run pos pins s σ H Q I (i σ H Q q)⟩
theorem kd_nil : KD X W [] dNil := pkImp pk_nil fun σ H Q ⟨env, M, q, E, H0, so, S, h, k, kx⟩ => k [] [] H0 H M (Ext.refl H0) S .nil h
theorem kd_cons {nm : Option Str} {e : Expr} {kpos : Pos} {kws : List Keyword} {de : DE} {da : DA} (he : PD X W e de) (hr : KD X W kws da) : KD X W (⟨nm, e, kpos⟩ :: kws) (dCons de da) :=
  pkImp (pk_cons he hr) fun σ H Q ⟨env, M, q, E, H0, so, S, h, k, kx⟩ =>
    goE so S h kx fun x dx H1 H' M1 e1 so1 S1 rx h1 kx1 => goA so1 S1 h1 kx1 fun xs ds H2 H'' M2 e2 so2 S2 rs h2 kx2 => k _ _ H2 H'' M2 (e1.trans e2) S2 (.cons (rx.mono e2) rs) h2
@[reducible] def dPar2 (i j : Nat) (da : DA) : DS := fun d env M => da env M (fun ds M1 => ∃ a b, ds = [a, b] ∧ d.nx ((env.set i (some a)).set j (some b)) M1) (d.ex env)
theorem sd_par2 (i j : Nat) {x y : Str} {a b : Expr} {da : DA} {px py pt pos : Pos} {kt k2 pt2} (hc : X.calm = true) (hN : X.N.Nodup) (ha : AD X W [a, b] da) (hi : X.N[i]? = some x := by rfl) (hj : X.N[j]? = some y := by rfl) (hij : i ≠ j := by decide)
    (hx : X.env.scope.names.lookup x = some .local := by rfl) (hy : X.env.scope.names.lookup y = some .local := by rfl)
    (hw : swappedStores [.Tuple [.Name x px, .Name y py] kt pt] (.Tuple [a, b] k2 pt2) X.env = pure (some [x, y]) := by rfl)
    (hs : swapsWithSole [.Tuple [.Name x px, .Name y py] kt pt] (.Tuple [a, b] k2 pt2) pos.line X.env = pure false := by rfl) :
    SDt X W (.Assign [.Tuple [.Name x px, .Name y py] kt pt] (.Tuple [a, b] k2 pt2) pos) (dPar2 i j da) :=
  psImp (ps_par hc hN hi hj hij hx hy ha hw hs) fun D σ H ⟨env, M, d, H0, so, S, h, k⟩ => goA so S h (k.ex.at so) fun vs ds H1 H' M1 e1 so1 S1 rs ⟨a, b, ed, w⟩ kx1 => by
    subst ed
    obtain ⟨v, u, rfl, rv, ru⟩ := dnl2 rs
    exact ⟨v, u, rfl, k.nx _ _ H1 H' M1 e1 ((so1.set i rv).set j ru) S1 w⟩
end
end DL
set_option maxRecDepth 100000
set_option maxHeartbeats 4000000
namespace DL
open PySem PySem.Spec PyProof.Rows L2 PySem.W RZ
theorem meets_enumT (l : Addr) (items : Array Value) (n : Nat) (dct : Option Addr) (sl : Array (Option Value)) :
    Meets (Builtin.«enumerate.__new__» ⟨[.type "enumerate", .ref l], []⟩) (fun _ R s => s.heap.get? l = some ⟨.type "tuple", dct, .seq items n, sl⟩ ∧
      R (.ok (.ret (.ref (s.heap.push { cls := .type "tuple_iterator", data := .fields #[.ref l, .int 0 0] }).objs.size)))
        { s with heap := (s.heap.push { cls := .type "tuple_iterator", data := .fields #[.ref l, .int 0 0] }).push { cls := .type "enumerate", data := .fields #[.none, .bool false, .ref s.heap.objs.size, rawInt 0, .none, .none] } }) :=
  .of_wp fun prog w A R s h => by
    obtain ⟨hp, g, d, tk, os⟩ := s
    obtain ⟨h1, h⟩ := h
    have hsub := sub_enumerate
    have q1 : ∀ {A' : Around} {E : Value → Shared → Prop} {Q : Value → Shared → Prop}, Q (.ref hp.objs.size) ⟨hp.push { cls := .type "tuple_iterator", data := .fields #[.ref l, .int 0 0] }, g, d, tk, os⟩ → wpAny (model prog w) A' (pyIter (.ref l)) Q E ⟨hp, g, d, tk, os⟩ :=
      fun q => wpAny_pyIter_tuple (s := ⟨hp, g, d, tk, os⟩) (show hp.IsTuple l items from ⟨_, h1, rfl, n, rfl⟩) q
    wp_walk using q1
    refine wpAny_stack_any fun st => wpAny_pure ?_
    split
    · rename_i c _ _ _ _ _
      cases (c == Value.type "enumerate")
      · wp_walk using q1
        exact ⟨_, rfl, h⟩
      · wp_walk using q1
        exact ⟨_, rfl, h⟩
    · wp_walk using q1
      exact ⟨_, rfl, h⟩
section
variable {prog : Program} {w : World} {A : Around} {E : Value → Shared → Prop} {s : Shared}
theorem call_enumT {l : Addr} {items : Array Value} {Q : Value → Shared → Prop} (hL : s.heap.IsTuple l items)
    (h : ∀ h', IsEnum h' (s.heap.objs.size + 1) s.heap.objs.size 0 .none → h'.IsTupleIter s.heap.objs.size l 0 → h'.objs.size = s.heap.objs.size + 2 →
      (∀ b o, s.heap.get? b = some o → h'.get? b = some o) → Q (.ref (s.heap.objs.size + 1)) { s with heap := h' }) :
    wpAny (model prog w) A (call (.type "enumerate") [.ref l]) Q E s := by
  obtain ⟨⟨c, dct, dt, sl⟩, hl, hc, n, hd⟩ := hL
  replace hc : c = .type "tuple" := hc
  replace hd : dt = .seq items n := hd
  subst hc hd
  refine callType_new F.called_enumerate (by decide) (F.typeCall_enumerate_1 _) (F.newCall_enumerate_1 _) (fun obj => F.args_object_init_2 obj _) F.entry_enumerate_new
    (meets_enumT l items n dct sl) ⟨hl, ?_⟩
  have hz : (s.heap.push { cls := .type "tuple_iterator", data := .fields #[.ref l, .int 0 0] }).objs.size = s.heap.objs.size + 1 := Heap.size_push ..
  show _ ∧ _
  rw [hz]
  have he : IsEnum ((s.heap.push { cls := .type "tuple_iterator", data := .fields #[.ref l, .int 0 0] }).push
      { cls := .type "enumerate", data := .fields #[.none, .bool false, .ref s.heap.objs.size, rawInt 0, .none, .none] }) (s.heap.objs.size + 1) s.heap.objs.size 0 .none := by
    have := Heap.get?_push_size (s.heap.push { cls := .type "tuple_iterator", data := .fields #[.ref l, .int 0 0] })
      (o := { cls := .type "enumerate", data := .fields #[.none, .bool false, .ref s.heap.objs.size, rawInt 0, .none, .none] }) rfl
    rw [hz] at this; exact this
  refine ⟨⟨_, he, rfl⟩, h _ he ⟨_, Heap.get?_push_of_some _ (Heap.get?_push_size _ rfl), rfl, rfl⟩ (by rw [Heap.size_push, hz]) fun b o x => Heap.get?_push_of_some _ (Heap.get?_push_of_some _ x)⟩
theorem enumT_end {e it l : Addr} {i : Nat} {items : Array Value} {old : Value} {Q : Option Value → Shared → Prop} (hh : A.handled = none) (he : IsEnum s.heap e it i old) (hit : s.heap.IsTupleIter it l i) (hl : s.heap.IsTuple l items) (hx : items[i]? = none)
    (hQ : ∀ h', Heap.ExtBut it s.heap h' → Q none { s with heap := h' }) : wpAny (model prog w) A (pyNext (.ref e)) Q E s := by
  have hT : s.TypeIs (.ref e) "enumerate" := ⟨_, he, rfl⟩
  unfold pyNext
  refine wpAny_bind (wpAny_attempt (wpAny_callSpecial?_slot (name := Str.ofString "__next__") hT F.slot_enumerate_next
    (wpAny_call_entry F.slot_enumerate_next hT F.entry_enumerate_next ?_ (F.args_enumerate_next_1 _))))
  show wpAny _ _ (field (.ref e) 2 >>= _) _ _ _
  refine wpAny_bind (wpAny_field he rfl (x := .ref it) rfl ?_)
  refine wpAny_bind (wpAny_nextOf_tuple_end (show A.in1.handled = none from hh) hit hl hx fun h' x he' hx' => ?_)
  obtain ⟨o, ho, hc⟩ := hx'
  refine wpAny_bind (wpAny_isInstance (T := "StopIteration") (b := true) ⟨o, ho, hc⟩ isSubtype_stop ?_)
  exact wpAny_pure (hQ _ he')
end
def IteT (K : PySem.W.Frag) (a : Addr) : It :=
  ⟨fun i H => ∃ (xs : List V) (x : V), SqT K H a xs ∧ xs[i]? = some x, fun i H v H' => ∃ T x, v = .ref T ∧ H T = none ∧ H' = upd H T (.tup [.int (i : Nat), x]) ∧ ∀ xs, SqT K H a xs → xs[i]? = some x, fun i H => ∃ xs : List V, SqT K H a xs ∧ xs.length ≤ i⟩
theorem turn_enumT {P : Program} {w : World} {K : PySem.W.Frag} {elts : List Expr} {kk : Nat} {tpos : Pos} (a e it : Addr) :
    Turn P w K (.Tuple elts kk tpos) (IteT K a) [e, it] e (fun i h => (∃ old, IsEnum h e it ((i : Nat) : Int) old) ∧ h.IsTupleIter it a i ∧ e ≠ it ∧ a ≠ it ∧ a ≠ e) where
  mem := by simp
  obj := fun i h st b hb => by
    obtain ⟨⟨old, he⟩, ⟨o, ho, hc, hd⟩, _⟩ := st
    have e' : b = e ∨ b = it := by simpa using hb
    rcases e' with z | z
    · rw [z]; exact ⟨_, he, fun v q => nomatch q⟩
    · rw [z]; exact ⟨o, ho, fun v q => by rw [hd] at q; cases q⟩
  keep := fun i h h' st k => let ⟨⟨old, he⟩, hi, hne⟩ := st; ⟨⟨old, k e (by simp) _ he⟩, hi.at fun o q => k it (by simp) o q, hne⟩
  item := by
    intro X hP hw hK hc i pins s σ H E I hf st hg
    subst hP hw hK
    obtain ⟨⟨old, he⟩, hit, hne, hai, hae⟩ := st
    obtain ⟨xs, x, hq, hx⟩ := hg
    obtain ⟨its, rv, p, hz⟩ := I.tuple hq
    obtain ⟨u, hu, ru⟩ := rv.get hx
    have hel : e < s.heap.objs.size := Heap.lt_size he
    have hil : it < s.heap.objs.size := by obtain ⟨_, q, _⟩ := hit; exact Heap.lt_size q
    have D := Draws.tuple (prog := X.prog) (w := X.w) (A := X.A.in1) (show X.A.in1.handled = none from I.ok.hd hc) it a hai its.toArray
    have hlt : i < its.toArray.size := by
      have := List.getElem?_eq_some_iff.mp hu
      obtain ⟨q, _⟩ := this
      simpa using q
    refine wpAny_pyNext_enum_itemD D he ⟨hit, show s.heap.IsTuple a its.toArray from p⟩ hlt hne (by simp [hne, Ne.symm hae]) fun y h' tk hy ho st' hT hsz hk => ?_
    have ey : y = u := by
      have : some y = some u := by rw [← hy]; simpa using hu
      exact Option.some.inj this
    subst ey
    refine ⟨_, rfl, wpAny_letOwnedTupleGo_enum (s := { s with heap := h', toks := tk + 1 }) ho fun h'' he' sb => ?_⟩
    have hT2 : h''.get? s.heap.objs.size = some { cls := .type "tuple", data := .seq #[.int i tk, y] } := (sb.2 _ (Nat.ne_of_gt hel)).trans hT
    have new : ObjOk X.prog X.w (upd H s.heap.objs.size (.tup [.int (i : Nat), x])) h'' s.heap.objs.size (.tup [.int (i : Nat), x]) :=
      ⟨by show 2 ≤ sizeLine; decide, [.int i tk, y], .cons ⟨_, rfl⟩ (.cons ru .nil), ⟨_, hT2, rfl, _, rfl⟩⟩
    have I1 : Inv X pins σ (upd H s.heap.objs.size (.tup [.int (i : Nat), x])) { s with heap := h'', toks := tk + 1 } :=
      I.turnedNew (ch := [e, it]) (fun b ob hb q => (sb.2 b (fun z => hb (by simp [z]))).trans (hk b ob (fun z => hb (by simp [z])) (fun z => hb (by simp [z])) q)) hf (Nat.le_refl _) new
    refine ⟨.ref s.heap.objs.size, _, I1, rfl, ⟨_, x, rfl, I.hok.fresh (Nat.le_refl _), rfl, fun ys hy => by rw [I.tuple_inj hy hq]; exact hx⟩, ⟨⟨y, ?_⟩, st'.1.at fun o q => (sb.2 it (Ne.symm hne)).trans q, hne, hai, hae⟩, fun b hb => ?_⟩
    · have e1 : ((i + 1 : Nat) : Int) = (i : Int) + 1 := by omega
      rw [e1]; exact he'
    · have hb' : b < s.heap.objs.size := by
        have e' : b = e ∨ b = it := by simpa using hb
        rcases e' with z | z
        · rw [z]; exact hel
        · rw [z]; exact hil
      rw [upd_ne (Nat.ne_of_lt hb')]
      exact (hf b hb).1
  done := by
    intro X hP hw hK hc i pins s σ H E I hf st hg
    subst hP hw hK
    obtain ⟨⟨old, he⟩, hit, hne, hai, hae⟩ := st
    obtain ⟨xs, hq, hx⟩ := hg
    obtain ⟨its, rv, p, hz⟩ := I.tuple hq
    obtain ⟨f0, f1, f2, f3, f4, f5⟩ := hf it (by simp)
    have hl := rv.length
    exact enumT_end (I.ok.hd hc) he hit (show s.heap.IsTuple a its.toArray from p) (by simp; omega) fun h' eb => ⟨rfl, I.turned (t' := s.toks) (fun b o hb q => eb b o hb q) f0 f1 f3 f4 f5⟩
  self := fun A i s Q E st h => let ⟨⟨_, he⟩, _⟩ := st; wpAny_pyIter_enum he h
/-- enumerate of a list or a tuple -/
def iEnumA (K : PySem.W.Frag) (ta : TA) : TI := fun σ H R => ta σ H fun vs H1 => ∃ a xs, vs = [.ref a] ∧ ((SqL K H1 a xs ∧ R (Ite K a) H1) ∨ (SqT K H1 a xs ∧ R (IteT K a) H1))
theorem pi_enumA {X : Cx} {e : Expr} {ta : TA} {p pos tpos : Pos} {elts : List Expr} {kk : Nat} (hg : Gl X "enumerate") (hm : X.mg "enumerate" = none) (ha : PA X [e] ta) (hs : starEach [e] X.env = [(false, eval e X.env)] := by rfl) :
    PI X (.Tuple elts kk tpos) (.Call (.Name "enumerate" p) [e] [] pos) (iEnumA X.K ta) := by
  refine ⟨fun pins s σ H R I h => ?_⟩
  refine Call_ (ld_blt I hg hm boot_enumerate (PyProof.Rows.callWith_type1 (thn (ha.run pos pins s σ H _ I h) fun us s1 ⟨vs, H1, I1, r1, q1⟩ => ?_) hs rfl))
  obtain ⟨a, xs, ex, q1⟩ := q1
  subst ex
  cases r1 with
  | cons r rr =>
    cases rr
    cases r
    have fr2 : ∀ b ∈ [s1.heap.objs.size + 1, s1.heap.objs.size], FpOk X pins H1 b := fun b hb => by
      have e' : b = s1.heap.objs.size + 1 ∨ b = s1.heap.objs.size := by simpa using hb
      have hle : s1.heap.objs.size ≤ b := by
        rcases e' with z | z
        · rw [z]; exact Nat.le_add_right _ _
        · rw [z]; exact Nat.le_refl _
      exact I1.fpOk hle (I1.hok.fresh hle)
    rcases q1 with ⟨hq, q⟩ | ⟨hq, q⟩
    · obtain ⟨its, rv, p', hz⟩ := I1.list hq
      refine call_enumerate_list p'.isList fun h' he hit hsz hk => wpAny_pyIter_enum he ?_
      have I2 : Inv X pins σ H1 { s1 with heap := h' } := I1.kept (t' := s1.toks) hk
      exact ⟨s1.heap.objs.size + 1, [s1.heap.objs.size + 1, s1.heap.objs.size], _, _, H1, rfl, I2, turn_enum a (s1.heap.objs.size + 1) s1.heap.objs.size, ⟨⟨.none, he⟩, hit, Nat.succ_ne_self _⟩, fr2, q⟩
    · obtain ⟨its, rv, p', hz⟩ := I1.tuple hq
      have hlt : a < s1.heap.objs.size := by obtain ⟨o, ho, _⟩ := id p'; exact Heap.lt_size ho
      refine call_enumT (show s1.heap.IsTuple a its.toArray from p') fun h' he hit hsz hk => wpAny_pyIter_enum he ?_
      have I2 : Inv X pins σ H1 { s1 with heap := h' } := I1.kept (t' := s1.toks) hk
      exact ⟨s1.heap.objs.size + 1, [s1.heap.objs.size + 1, s1.heap.objs.size], _, _, H1, rfl, I2, turn_enumT a (s1.heap.objs.size + 1) s1.heap.objs.size, ⟨⟨.none, he⟩, hit, Nat.succ_ne_self _, Nat.ne_of_lt hlt, Nat.ne_of_lt (Nat.lt_succ_of_lt hlt)⟩, fr2, q⟩
/-- pairs made anew at each turn -/
theorem mk_pair {K : PySem.W.Frag} {H0 H : Hp} {M : Mem} {T : Addr} {x y : V} {dx dy : D} (S : SD K H0 H M) (hT : H T = none) (rx : Dn K H0 x dx) (ry : Dn K H0 y dy) : ∃ H2, Ext H0 H2 ∧ SD K H2 (upd H T (.tup [x, y])) M ∧ Dn K H2 (.ref T) (.tup [dx, dy]) :=
  ⟨_, Ext.add (S.fresh hT).1, S.new hT, .tup (SqT.of upd_same) (.cons (rx.mono (Ext.add (S.fresh hT).1)) (.cons (ry.mono (Ext.add (S.fresh hT).1)) .nil))⟩
def enumD (xs : List D) : List D := (rngD 0 xs.length).zipWith (fun i x => .tup [i, x]) xs
theorem enumD_get {xs : List D} {i : Nat} {d : D} (h : (enumD xs)[i]? = some d) : ∃ x, xs[i]? = some x ∧ d = .tup [.int (i : Nat), x] := by
  unfold enumD rngD at h
  rw [List.getElem?_zipWith] at h
  cases hx : xs[i]? with
  | none => rw [hx] at h; simp at h
  | some x =>
    rw [hx] at h
    have hi := (List.getElem?_eq_some_iff.mp hx).1
    simp [List.getElem?_range hi] at h
    exact ⟨x, rfl, h.symm⟩
theorem enumD_len {xs : List D} : (enumD xs).length = xs.length := by
  unfold enumD rngD
  simp
theorem ite_ok {K : PySem.W.Frag} {H0 : Hp} {a : Addr} {d : D} {xs : List D} (hl : ∀ H0' H M, Ext H0 H0' → SD K H0' H M → seqOf M d = some xs → ∃ vs, SqL K H a vs ∧ DnL K H0' vs xs) : ItOk K H0 (Ite K a) (enumD xs) (fun M => seqOf M d = some xs) where
  go := fun H0' H M i y e S ok hi => by
    obtain ⟨x, hx, rfl⟩ := enumD_get hi
    obtain ⟨vs, hs, r⟩ := hl H0' H M e S ok
    obtain ⟨v, hv, rv⟩ := r.get hx
    exact ⟨⟨vs, v, hs, hv⟩, fun z H' ⟨T, u, e1, hT, e2, e3⟩ => by
      subst e1 e2
      have := e3 vs hs
      rw [hv] at this
      cases this
      exact mk_pair S hT (.int _) rv⟩
  stop := fun H0' H M i e S ok hi => by
    obtain ⟨vs, hs, r⟩ := hl H0' H M e S ok
    exact ⟨vs, hs, by rw [r.length]; rw [enumD_len] at hi; exact hi⟩
theorem iteT_ok {K : PySem.W.Frag} {H0 : Hp} {a : Addr} {xs : List D} {vs : List V} (h : SqT K H0 a vs) (r : DnL K H0 vs xs) (ok : Mem → Prop) : ItOk K H0 (IteT K a) (enumD xs) ok where
  go := fun H0' H M i y e S _ hi => by
    obtain ⟨x, hx, rfl⟩ := enumD_get hi
    obtain ⟨v, hv, rv⟩ := r.get hx
    have hs : SqT K H a vs := (e.trans S.ex).sqT h
    exact ⟨⟨vs, v, hs, hv⟩, fun z H' ⟨T, u, e1, hT, e2, e3⟩ => by
      subst e1 e2
      have := e3 vs hs
      rw [hv] at this
      cases this
      exact mk_pair S hT (.int _) (rv.mono e)⟩
  stop := fun H0' H M i e S _ hi => ⟨vs, (e.trans S.ex).sqT h, by rw [r.length]; rw [enumD_len] at hi; exact hi⟩
section
variable {X : Cx} {W : WX}
@[reducible] def dEnum (da : DA) : DI := fun env M q E => da env M (fun ds M1 => ∃ d xs, ds = [d] ∧ seqOf M1 d = some xs ∧ q (enumD xs) (fun M' => seqOf M' d = some xs) M1) E
theorem id_enum {e : Expr} {da : DA} {p pos tpos : Pos} {elts : List Expr} {kk : Nat} (hg : Gl X "enumerate") (hm : X.mg "enumerate" = none) (ha : AD X W [e] da) (hs : starEach [e] X.env = [(false, eval e X.env)] := by rfl) : ID X W (.Tuple elts kk tpos) (.Call (.Name "enumerate" p) [e] [] pos) (dEnum da) :=
  piImp (pi_enumA hg hm ha hs) fun σ H R ⟨env, M, q, E, H0, so, S, h, k, kx⟩ => goA so S h kx fun vs ds H1 H' M1 e1 so1 S1 rs ⟨d, xs, ed, ex, w⟩ kx1 => by
    subst ed
    obtain ⟨v, rfl, rx⟩ := dnl1 rs
    have fin : ∀ J ok, ItOk X.K H1 J (enumD xs) ok → q (enumD xs) ok M1 → R J H' := fun J ok z w => k J _ ok H1 H' M1 e1 S1 z w
    cases rx with
    | lst hh r =>
      cases ex
      exact ⟨_, _, rfl, .inl ⟨SqL.of (S1.ex _ _ hh), fin _ _ (ite_ok (d := .lst xs) fun H0' H M e S _ => ⟨_, SqL.of (S.ex _ _ (e _ _ hh)), r.mono e⟩) w⟩⟩
    | lsf hh r =>
      cases ex
      exact ⟨_, _, rfl, .inl ⟨S1.ex.sqL hh, fin _ _ (ite_ok (d := .lsf xs) fun H0' H M e S _ => ⟨_, (e.trans S.ex).sqL hh, r.mono e⟩) w⟩⟩
    | tup hh r =>
      cases ex
      exact ⟨_, _, rfl, .inr ⟨S1.ex.sqT hh, fin _ _ (iteT_ok hh r _) w⟩⟩
    | cel c =>
      obtain ⟨_, vs, e2, r⟩ := S1.cell c xs (celL_eq ex)
      exact ⟨_, vs, rfl, .inl ⟨SqL.of e2, fin _ _ (ite_ok (d := .cel c) fun H0' H M e S ok => by
        obtain ⟨_, ws, e3, r3⟩ := S.cell c xs (celL_eq ok)
        exact ⟨ws, SqL.of e3, r3⟩) w⟩⟩
    | _ => cases ex
/-- zip of two tuples -/
def zipD (xs ys : List D) : List D := xs.zipWith (fun x y => .tup [x, y]) ys
theorem itzT_ok {K : PySem.W.Frag} {H0 : Hp} {a b : Addr} {xs ys : List D} {vs us : List V} (h : SqT K H0 a vs) (r : DnL K H0 vs xs) (h' : SqT K H0 b us) (r' : DnL K H0 us ys) (ok : Mem → Prop) : ItOk K H0 (ItzT K a b) (zipD xs ys) ok where
  go := fun H0' H M i y e S _ hi => by
    unfold zipD at hi
    rw [List.getElem?_zipWith] at hi
    cases hx : xs[i]? with
    | none => rw [hx] at hi; simp at hi
    | some x =>
      cases hy : ys[i]? with
      | none => rw [hx, hy] at hi; simp at hi
      | some z =>
        rw [hx, hy] at hi
        simp at hi
        subst hi
        obtain ⟨v, hv, rv⟩ := r.get hx
        obtain ⟨u, hu, ru⟩ := r'.get hy
        have hs : SqT K H a vs := (e.trans S.ex).sqT h
        have hs' : SqT K H b us := (e.trans S.ex).sqT h'
        exact ⟨⟨vs, us, v, u, hs, hs', hv, hu⟩, fun z H' ⟨T, p, q, e1, hT, e2, e3, e4⟩ => by
          subst e1 e2
          have a1 := e3 vs hs
          rw [hv] at a1
          cases a1
          have a2 := e4 us hs'
          rw [hu] at a2
          cases a2
          exact mk_pair S hT (rv.mono e) (ru.mono e)⟩
  stop := fun H0' H M i e S _ hi => ⟨vs, us, (e.trans S.ex).sqT h, (e.trans S.ex).sqT h', by
    unfold zipD at hi
    rw [List.length_zipWith] at hi
    rw [r.length, r'.length]
    omega⟩
theorem itzL_ok {K : PySem.W.Frag} {H0 : Hp} {a b : Addr} {d d' : D} {xs ys : List D} (hl : ∀ H0' H M, Ext H0 H0' → SD K H0' H M → lsqOf M d = some xs → ∃ vs, SqL K H a vs ∧ DnL K H0' vs xs) (hl' : ∀ H0' H M, Ext H0 H0' → SD K H0' H M → lsqOf M d' = some ys → ∃ vs, SqL K H b vs ∧ DnL K H0' vs ys) :
    ItOk K H0 (Itz K a b) (zipD xs ys) (fun M => lsqOf M d = some xs ∧ lsqOf M d' = some ys) where
  go := fun H0' H M i y e S ok hi => by
    unfold zipD at hi
    rw [List.getElem?_zipWith] at hi
    obtain ⟨vs, hs, r⟩ := hl H0' H M e S ok.1
    obtain ⟨us, hs', r'⟩ := hl' H0' H M e S ok.2
    cases hx : xs[i]? with
    | none => rw [hx] at hi; simp at hi
    | some x =>
      cases hy : ys[i]? with
      | none => rw [hx, hy] at hi; simp at hi
      | some z =>
        rw [hx, hy] at hi
        simp at hi
        subst hi
        obtain ⟨v, hv, rv⟩ := r.get hx
        obtain ⟨u, hu, ru⟩ := r'.get hy
        exact ⟨⟨vs, us, v, u, hs, hs', hv, hu⟩, fun z H' ⟨T, p, q, e1, hT, e2, e3, e4⟩ => by
          subst e1 e2
          have a1 := e3 vs hs
          rw [hv] at a1
          cases a1
          have a2 := e4 us hs'
          rw [hu] at a2
          cases a2
          exact mk_pair S hT rv ru⟩
  stop := fun H0' H M i e S ok hi => by
    obtain ⟨vs, hs, r⟩ := hl H0' H M e S ok.1
    obtain ⟨us, hs', r'⟩ := hl' H0' H M e S ok.2
    refine ⟨vs, us, hs, hs', ?_⟩
    unfold zipD at hi
    rw [List.length_zipWith] at hi
    rw [r.length, r'.length]
    omega
theorem lsq_at {K : PySem.W.Frag} {H0 : Hp} {v : V} {d : D} {a : Addr} {xs : List D} (h : Dn K H0 v d) (ev : v = .ref a) : ∀ H0' H M, Ext H0 H0' → SD K H0' H M → lsqOf M d = some xs → ∃ vs, SqL K H a vs ∧ DnL K H0' vs xs := fun H0' H M e S q => by
  obtain ⟨b, vs, e1, hs, r⟩ := S.lsq (h.mono e) q
  rw [ev] at e1
  cases e1
  exact ⟨vs, hs, r⟩
@[reducible] def dZip (da : DA) : DI := fun env M q E => da env M (fun ds M1 => ∃ d d' xs ys, ds = [d, d'] ∧ ((d = .tup xs ∧ d' = .tup ys ∧ q (zipD xs ys) (fun _ => True) M1) ∨ (lsqOf M1 d = some xs ∧ lsqOf M1 d' = some ys ∧ q (zipD xs ys) (fun M' => lsqOf M' d = some xs ∧ lsqOf M' d' = some ys) M1))) E
theorem id_zip {e e2 : Expr} {da : DA} {p pos tpos : Pos} {elts : List Expr} {kk : Nat} (hg : Gl X "zip") (hm : X.mg "zip" = none) (ha : AD X W [e, e2] da)
    (hs : starEach [e, e2] X.env = (false, eval e X.env) :: starEach [e2] X.env := by rfl) (hpl : (backTo pos (starEach [e2] X.env)).any (·.1) = false := by rfl) : ID X W (.Tuple elts kk tpos) (.Call (.Name "zip" p) [e, e2] [] pos) (dZip da) :=
  piImp (pi_zipA hg hm ha hs hpl) fun σ H R ⟨env, M, q, E, H0, so, S, h, k, kx⟩ => goA so S h kx fun vs ds H1 H' M1 e1 so1 S1 rs ⟨d, d', xs, ys, ed, w⟩ kx1 => by
    subst ed
    obtain ⟨v, u, rfl, rv, ru⟩ := dnl2 rs
    rcases w with ⟨rfl, rfl, w⟩ | ⟨w1, w2, w⟩
    · cases rv with
      | tup hh r => cases ru with
        | tup hh' r' => exact ⟨_, _, _, _, rfl, .inr ⟨S1.ex.sqT hh, S1.ex.sqT hh', k _ _ _ H1 H' M1 e1 S1 (itzT_ok hh r hh' r' _) w⟩⟩
    · obtain ⟨a, us, ea, hq, r⟩ := S1.lsq rv w1
      obtain ⟨b, us', eb, hq', r'⟩ := S1.lsq ru w2
      subst ea eb
      exact ⟨a, b, us, us', rfl, .inl ⟨hq, hq', k _ _ _ H1 H' M1 e1 S1 (itzL_ok (d := d) (d' := d') (lsq_at rv rfl) (lsq_at ru rfl)) w⟩⟩
end
end DL
set_option maxRecDepth 100000
set_option maxHeartbeats 4000000
namespace DL
open PySem PySem.Spec PyProof.Rows L2
def tyT : D → Option String
  | .non => some "NoneType"
  | .bl _ => some "bool"
  | .int _ => some "int"
  | .str _ => some "str"
  | .lst _ => some "list"
  | .lsf _ => some "list"
  | .tup _ => some "tuple"
  | .dic _ _ => some "dict"
  | _ => none
def tyD (M : Mem) : D → Option String
  | .cel c => match M c with
    | some (.ls _) => some "list"
    | some (.dc _) => some "dict"
    | _ => none
  | d => tyT d
theorem SD.tyX {K : PySem.W.Frag} {H0 H : Hp} {M : Mem} (S : SD K H0 H M) {v : V} {d : D} {t : String} (h : Dn K H0 v d) (e : tyD M d = some t) : TyX K H v (.type t) := by
  have rd : ∀ {a : Addr} {xs : List V}, Rd H a (.lst xs) → TyX K H (.ref a) (.type "list") := fun z => z.elim (fun z => .base (.lst z)) fun ⟨o, z⟩ => .base (.frz z)
  have rt : ∀ {a : Addr} {xs : List V}, Rd H a (.tup xs) → TyX K H (.ref a) (.type "tuple") := fun z => z.elim (fun z => .base (.tup z)) fun ⟨o, z⟩ => .fTuple z
  cases h with
  | non => cases e; exact .base .non
  | bl b => cases e; exact .base (.bl b)
  | int b => cases e; exact .base (.int b)
  | str b => cases e; exact .base (.str b)
  | ty n => cases e
  | cel c =>
    have e' : (match M c with | some (.ls _) => some "list" | some (.dc _) => some "dict" | _ => none) = some t := e
    split at e'
    · rename_i xs hm; cases e'
      obtain ⟨_, vs, q, _⟩ := S.any c _ hm
      exact .base (.lst q)
    · rename_i xs hm; cases e'
      obtain ⟨_, vs, q, _⟩ := S.any c _ hm
      exact .base (.dK q)
    · cases e'
  | lst q r => cases e; exact .base (.lst (S.ex _ _ q))
  | lsf q r =>
    cases e
    rcases S.ex.sqL q with z | ⟨o, _, _, z, c, _⟩
    · exact rd z
    · exact .kList z c
  | tup q r =>
    cases e
    rcases S.ex.sqT q with z | ⟨o, _, _, z, c, _⟩
    · exact rt z
    · exact .kTuple z c
  | dic q r => cases e; exact .base (.dK (S.ex _ _ q))
  | ins q r => cases e
def isT (a b : String) : Option Bool := match b with
  | "int" => (match a with | "int" => some true | "bool" => some true | "NoneType" => some false | "str" => some false | "list" => some false | "tuple" => some false | "dict" => some false | _ => none)
  | "bool" => (match a with | "int" => some false | "bool" => some true | "NoneType" => some false | "str" => some false | "list" => some false | "tuple" => some false | "dict" => some false | _ => none)
  | "str" => (match a with | "int" => some false | "bool" => some false | "NoneType" => some false | "str" => some true | "list" => some false | "tuple" => some false | "dict" => some false | _ => none)
  | "tuple" => (match a with | "int" => some false | "bool" => some false | "NoneType" => some false | "str" => some false | "list" => some false | "tuple" => some true | "dict" => some false | _ => none)
  | _ => none
theorem isT_ok {a b : String} {r : Bool} (h : isT a b = some r) : kitB a b = some r := by
  unfold isT at h
  split at h <;> (try cases h) <;> (split at h <;> (try cases h) <;> decide +kernel)
@[reducible] def rdIsi (n : String) : RD1 := fun d M q => ∃ t b, tyD M d = some t ∧ isT t n = some b ∧ q (.bl b) M
section
variable {X : Cx} {W : WX}
@[reducible] def dIsi (n : String) (de : DE) : DE := fun env M q E => de env M (fun d M1 => rdIsi n d M1 q) E
theorem pd_isi {e : Expr} {y : Str} {n : String} {p p' pos : Pos} {de : DE} (he : PD X W e de) (hm : X.mg "isinstance" = none) (hmy : X.mg y = none) (hv : bootBuiltins y = some (.type n)) (hg : Gl X "isinstance" := by rfl) (hgy : Gl X y := by rfl) (hny : y ≠ "__name__" := by decide) (hdy : (y == ("__debug__" : Str)) = false := by decide)
    (hs : starEach [e, .Name y p'] X.env = (false, eval e X.env) :: starEach [.Name y p'] X.env := by rfl) (hpl : (backTo pos (starEach [.Name y p'] X.env)).any (·.1) = false := by rfl) (hv2 : bootBuiltins "isinstance" = some (.builtin "isinstance") := by decide +kernel) : PD X W (.Call (.Name "isinstance" p) [e, .Name y p'] [] pos) (dIsi n de) := by
  have h2 : AD X W [e, .Name y p'] (dCons de (dCons (dC (.ty n)) dNil)) := ad_cons he (ad_cons (pd_of_tC (pe_bltn hgy hmy hv (show RelV (.ty n) (.type n) from rfl) hny hdy) fun _ => .ty n) ad_nil (by rfl)) hs
  refine peImp (pe_callB (x := "isinstance") call_isi hg hm hv2 h2 (by decide) (by decide) hs hpl) fun σ H Q ⟨env, M, q, E, H0, so, S, h, k, kx⟩ => ?_
  refine ⟨env, M, fun ds M1 => (match ds with | [d, .ty m] => m = n ∧ rdIsi n d M1 q | _ => False), E, H0, so, S, ?_, ?_, kx⟩
  · show de env M (fun d M1 => n = n ∧ rdIsi n d M1 q) E
    rw [show (fun d M1 => n = n ∧ rdIsi n d M1 q) = (fun d M1 => rdIsi n d M1 q) from by funext d M1; exact propext ⟨fun h => h.2, fun h => ⟨rfl, h⟩⟩]
    exact h
  · intro vs ds H1 H' M1 e1 S1 rs w
    have w' : ∃ d, ds = [d, .ty n] ∧ rdIsi n d M1 q := by
      revert w
      split
      · rintro ⟨rfl, w⟩; exact ⟨_, rfl, w⟩
      · exact fun z => z.elim
    clear w
    obtain ⟨d, ed, t, b, et, eb, w⟩ := w'
    subst ed
    obtain ⟨v, u, rfl, rv, ru⟩ := dnl2 rs
    cases ru
    exact ⟨v, .ty n, .type t, .type n, b, rfl, .ty n, S1.tyX rv et, kit_ty (isT_ok eb), k _ _ H1 H' M1 e1 S1 (.bl b) w⟩
end
def IsPairS (h : Heap) (v : Value) (x : Int) (z : PySem.Str) : Prop := ∃ (a : Addr) (o : Obj) (t u : Tok) (n : Nat), v = .ref a ∧ h.get? a = some o ∧ o.cls = .type "tuple" ∧ o.data = .seq #[.int x t, .str z u] n
theorem IsPairS.keeps {h h' : Heap} {v : Value} {x : Int} {z : PySem.Str} (p : IsPairS h v x z) (k : ∀ b o, h.get? b = some o → o.cls = .type "tuple" → h'.get? b = some o) : IsPairS h' v x z := by
  obtain ⟨a, o, t, u, n, e, ho, hc, hd⟩ := p
  exact ⟨a, o, t, u, n, e, k a o ho hc, hc, hd⟩
section
open SrtO Srt
variable {prog : Program} {w : World} {A : Around} {E : Value → Shared → Prop} {s : Shared}
abbrev ltI (k : Value → Int) (v u : Value) : Bool := decide (k v < k u)
theorem swo_int (k : Value → Int) : Swo (ltI k) := ⟨fun x y h => by
  have := of_decide_eq_true h
  exact decide_eq_false (by omega), fun x y z h1 h2 => by
  have a := of_decide_eq_false h1
  have b := of_decide_eq_false h2
  exact decide_eq_false (by omega)⟩
theorem pairS_cmp {vs : List Value} {k : Value → Int} {z : Value → PySem.Str} (hp : ∀ v ∈ vs, IsPairS s.heap v (k v) (z v)) (hi : ∀ v ∈ vs, ∀ u ∈ vs, k v = k u → z v = z u) : Cmp prog w A s (tuples' true) (fun p => p.1 ∈ vs) (lt2 (ltI k)) := by
  intro p q hm hm'
  have h1 := hp _ hm
  have h2 := hp _ hm'
  have h3 := hi _ hm _ hm'
  show wpAny (model prog w) A (keyLt' (tuples' true) p.1 q.1) (fun r s' => s' = s ∧ r = decide (k p.1 < k q.1)) (fun _ _ => False) s
  generalize k p.1 = x at h1 h3 ⊢
  generalize z p.1 = y at h1 h3 ⊢
  generalize k q.1 = x' at h2 h3 ⊢
  generalize z q.1 = y' at h2 h3 ⊢
  obtain ⟨a, o, t, u, n, e, ho, hc, hd⟩ := h1
  obtain ⟨a', o', t', u', n', e', ho', hc', hd'⟩ := h2
  rw [e, e']
  refine PySem.W.kat_lt ho hd ho' hd' ?_
  show PySem.W.KatLex prog w A true (decide (2 < 2)) _ [(.int x t, .int x' t'), (.str y u, .str y' u')] 0 s
  refine PySem.W.kat_cons (SeqAt.EqAt.int_int x t x' t' prog w _ _ ?_)
  refine PySem.W.kat_go (fun e1 => ?_) (fun e1 => ?_)
  · have ex : x = x' := by simpa using e1
    have ey := h3 ex
    subst ex ey
    refine PySem.W.kat_yes (PySem.W.kat_cons (SeqAt.EqAt.str_str y u y u' prog w _ _ ?_))
    refine PySem.W.kat_go (fun e2 => ?_) (fun e2 => ?_)
    · exact PySem.W.kat_yes (PySem.W.kat_nil ⟨rfl, (decide_eq_false (Int.lt_irrefl _)).symm⟩)
    · exact absurd e2 (by simp)
  · exact PySem.W.kat_no (oneLt_int ⟨rfl, rfl⟩)
theorem firstsS {h : Heap} : ∀ {vs : List Value}, (∀ v ∈ vs, ∃ x y, IsPairS h v x y) → ∃ fs : List Value, PySem.W.KatTups h vs fs ∧ fs.length = vs.length ∧ ∀ f ∈ fs, ∃ x t, f = Value.int x t
  | [], _ => ⟨[], PySem.W.KatTups.nil, rfl, fun _ hm => by simp at hm⟩
  | v :: vs, hp => by
    obtain ⟨fs, h1, h2, h3⟩ := firstsS (vs := vs) fun v' hm => hp v' (List.mem_cons_of_mem _ hm)
    obtain ⟨x, y, a, o, t, u, n, e, ho, hc, hd⟩ := hp v (List.mem_cons_self ..)
    subst e
    refine ⟨.int x t :: fs, PySem.W.KatTups.cons ho hc hd rfl h1, by rw [List.length_cons, List.length_cons, h2], fun f hm => ?_⟩
    rcases List.mem_cons.mp hm with rfl | hm
    · exact ⟨x, t, rfl⟩
    · exact h3 f hm
theorem pairS_sortable {a : Addr} {vs : List Value} {k : Value → Int} {z : Value → PySem.Str} (h0 : 0 < vs.length) (hp : ∀ v ∈ vs, IsPairS s.heap v (k v) (z v)) (hi : ∀ v ∈ vs, ∀ u ∈ vs, k v = k u → z v = z u) (ha : ∀ o, s.heap.get? a = some o → o.cls ≠ .type "tuple") : SortableO prog w A s a vs (ltI k) := by
  intro h' keep
  have hp' : ∀ v ∈ vs, IsPairS h' v (k v) (z v) := fun v hm => (hp v hm).keeps fun b o e c => keep b o (fun z => by subst z; exact ha o e c) e
  obtain ⟨fs, h1, h2, h3⟩ := firstsS fun v hm => ⟨_, _, hp' v hm⟩
  refine ⟨tuples' true, fun Q E hq => ?_, pairS_cmp hp' hi⟩
  refine PySem.W.kat_kind (T := .type "int") h1 (by omega) (fun f hm => ?_) (by rfl) ?_
  · obtain ⟨x, t, rfl⟩ := h3 f hm
    exact PySem.W.Looks.now
  · have e : (Value.type "int" != Value.type "tuple") = true := by first | decide +kernel | rfl | decide
    rw [e]
    exact hq
theorem sorted_pairS {l : Addr} {vs : List Value} {k : Value → Int} {z : Value → PySem.Str} {Q : Value → Shared → Prop} (hl : s.heap.IsList l vs.toArray) (hz : vs.length ≤ sizeLine) (hp : ∀ v ∈ vs, IsPairS s.heap v (k v) (z v)) (hi : ∀ v ∈ vs, ∀ u ∈ vs, k v = k u → z v = z u)
    (h : ∀ (h' : Heap) (d : Addr) (out : List Value), Srtd (ltI k) out → Stb (ltI k) out vs → (∀ b o, s.heap.get? b = some o → h'.get? b = some o) → s.heap.objs.size ≤ d → (∃ n, h'.get? d = some (seqObj "list" out.toArray n)) → Q (.ref d) { s with heap := h' }) :
    wpAny (model prog w) A (call (.builtin "sorted") [.ref l]) Q E s := by
  refine sorted_ord (swo_int k) hl hz (fun h2 h₁ a ha kk => ?_) fun out hs hb => ?_
  · refine pairS_sortable (s := { s with heap := h₁ }) (by omega) (fun v hm => (hp v hm).keeps fun b o e _ => (kk b o e).2) hi fun o e => ?_
    have e' : some o = some (seqObj "list" vs.toArray 0) := e.symm.trans ha
    cases e'
    intro c
    exact absurd (Value.type.inj c) (by decide)
  · exact h _ _ out hs hb (fun b o e => sortedAll_old e) (Nat.le_succ _) (sortedAll_at s.heap vs out.toArray)
end
/-- what a pair at v says -/
def pairAt (K : PySem.W.Frag) (H : Hp) (v : V) (p : Int × PySem.Str) : Prop := ∃ t, v = .ref t ∧ SqT K H t [.int p.1, .str p.2]
/-- sorted(xs) over the layer: refs to pairs -/
def rSortPS (K : PySem.W.Frag) : List V → Hp → VK → Prop := fun vs H Q => ∃ (a : Addr) (xs : List V) (ps : List (Int × PySem.Str)), vs = [V.ref a] ∧ SqL K H a xs ∧ (∀ x ∈ xs, ∃ p, p ∈ ps ∧ pairAt K H x p) ∧ (∀ p ∈ ps, ∀ q ∈ ps, p.1 = q.1 → p.2 = q.2) ∧
  ∀ (ys : List V) (p : Addr), ys.Pairwise (fun x y => ∀ p q : Int × PySem.Str, pairAt K H x p → pairAt K H y q → p.1 ≤ q.1) → ys.Perm xs → H p = none → Q (.ref p) (upd H p (.lst ys))
section
variable {X : Cx} {W : WX}
open Classical in
theorem cr_sortPS : CallR X (.builtin "sorted") (rSortPS X.K) := by
  intro pins s σ H vs us Q I r h
  obtain ⟨a, xs, ps, rfl, hs, hx, hi, q⟩ := h
  let g : V → Int × PySem.Str := fun v => if e : ∃ p, pairAt X.K H v p then e.choose else (0, default)
  have gok : ∀ v p, pairAt X.K H v p → g v = p := fun v p hp => by
    have e : ∃ p, pairAt X.K H v p := ⟨p, hp⟩
    have e1 : g v = e.choose := dif_pos e
    obtain ⟨t, rfl, q1⟩ := hp
    obtain ⟨t', e2, q2⟩ := e.choose_spec
    cases e2
    have z := I.tuple_inj q1 q2
    rw [e1]
    simp only [List.cons.injEq, V.int.injEq, V.str.injEq, and_true] at z
    exact Prod.ext z.1.symm z.2.symm
  obtain ⟨its, rv, hl, hz⟩ := I.list hs
  obtain ⟨u, rfl, ru⟩ := vals1 r
  obtain rfl : u = Value.ref a := ru
  obtain ⟨e1, e2⟩ := refs_back rv fun x m => by
    obtain ⟨p, _, t, e, _⟩ := hx x m
    exact ⟨t, e⟩
  have mem : ∀ v ∈ its, backV v ∈ xs := fun v hv => by rw [e1]; exact List.mem_map.mpr ⟨v, hv, rfl⟩
  have gat : ∀ v ∈ xs, pairAt X.K H v (g v) := fun v hv => by
    obtain ⟨p, _, hp⟩ := hx v hv
    rw [gok v p hp]; exact hp
  have gin : ∀ v ∈ xs, g v ∈ ps := fun v hv => by
    obtain ⟨p, hm, hp⟩ := hx v hv
    rw [gok v p hp]; exact hm
  refine sorted_pairS (k := fun u => (g (backV u)).1) (z := fun u => (g (backV u)).2) hl.isList (by rw [← rv.length]; exact hz) (fun v hv => ?_) (fun v hv u hu => hi _ (gin _ (mem v hv)) _ (gin _ (mem u hu))) fun h' d out h1 h2 kp hd hn => ?_
  · obtain ⟨t, rfl⟩ := e2 v hv
    obtain ⟨t', et, ht⟩ := gat _ (mem _ hv)
    cases et
    obtain ⟨its2, rv2, ⟨o, ho, hc, n, hdt⟩, _⟩ := I.tuple ht
    obtain ⟨u1, u2, rfl, r1, r2⟩ := vals2 rv2
    obtain ⟨t1, rfl⟩ := r1
    obtain ⟨t2, rfl⟩ := r2
    exact ⟨t, o, t1, t2, n, rfl, ho, hc, hdt⟩
  · have h3 : ∀ u ∈ out, ∃ a, u = Value.ref a := fun u hu => e2 u (h2.perm.mem_iff.mp hu)
    obtain ⟨n, hn⟩ := hn
    have hb : (out.map backV).Perm xs := by rw [e1]; exact h2.perm.map backV
    refine ⟨.ref d, upd H d (.lst (out.map backV)), I.laid (t' := s.toks) kp hd ⟨?_, out, n, vals_back h3, hn⟩, rfl, q _ d ?_ hb (I.hok.fresh hd)⟩
    · rw [hb.length_eq]
      exact hz
    · rw [List.pairwise_map]
      exact h1.imp fun h p q hp hq => by
        rw [← gok _ p hp, ← gok _ q hq]
        exact Int.not_lt.mp (of_decide_eq_false h)
def pairsD : List D → Option (List (Int × PySem.Str))
  | [] => some []
  | .tup [.int i, .str z] :: ds => (pairsD ds).map ((i, z) :: ·)
  | _ => none
def pairD (p : Int × PySem.Str) : D := .tup [.int p.1, .str p.2]
theorem pairsD_eq : ∀ {ds : List D} {ps : List (Int × PySem.Str)}, pairsD ds = some ps → ds = ps.map pairD
  | [], ps, h => by cases h; rfl
  | d :: ds, ps, h => by
    unfold pairsD at h
    split at h
    · rename_i e; cases e
    · rename_i i z ds' e
      cases e
      obtain ⟨qs, e1, rfl⟩ := omap h
      rw [List.map_cons, ← pairsD_eq e1]
      rfl
    · cases h
theorem pairsD_map : ∀ ps : List (Int × PySem.Str), pairsD (ps.map pairD) = some ps
  | [] => rfl
  | p :: ps => by
    show (pairsD (ps.map pairD)).map (p :: ·) = _
    rw [pairsD_map ps]
    rfl
theorem DnL.perm {K : PySem.W.Frag} {H : Hp} {vs us : List V} (p : us.Perm vs) : ∀ {ds : List D}, DnL K H vs ds → ∃ es, es.Perm ds ∧ DnL K H us es := by
  induction p with
  | nil => intro ds h; exact ⟨ds, .refl _, h⟩
  | cons x _ ih =>
    intro ds h
    cases h with
    | cons a r =>
      obtain ⟨es, p, z⟩ := ih r
      exact ⟨_ :: es, p.cons _, .cons a z⟩
  | swap x y l =>
    intro ds h
    cases h with
    | cons a r => cases r with
      | cons b r => exact ⟨_, List.Perm.swap _ _ _, .cons b (.cons a r)⟩
  | trans _ _ ih1 ih2 =>
    intro ds h
    obtain ⟨es, p1, z1⟩ := ih2 h
    obtain ⟨fs, p2, z2⟩ := ih1 z1
    exact ⟨fs, p2.trans p1, z2⟩
theorem dn_pair {K : PySem.W.Frag} {H : Hp} {v : V} {p : Int × PySem.Str} (h : Dn K H v (pairD p)) : pairAt K H v p := by
  cases h with
  | tup q r =>
    obtain ⟨a, b, e, ra, rb⟩ := dnl2 r
    subst e
    rw [ra.inv_int, rb.inv_str] at q
    exact ⟨_, rfl, q⟩
def rdSortP : RDL := fun ds M q => ∃ (d : D) (xs : List D) (ps : List (Int × PySem.Str)), ds = [d] ∧ lsqOf M d = some xs ∧ pairsD xs = some ps ∧ (∀ a ∈ ps, ∀ b ∈ ps, a.1 = b.1 → a.2 = b.2) ∧ ∀ ps' : List (Int × PySem.Str), ps'.Perm ps → ps'.Pairwise (fun a b => a.1 ≤ b.1) → q (.lst (ps'.map pairD)) M
theorem map_pairs {ds : List D} {ps : List (Int × PySem.Str)} (h : ds.Perm (ps.map pairD)) : ∃ ps' : List (Int × PySem.Str), ps'.Perm ps ∧ ds = ps'.map pairD := by
  have hh : ∃ l, ds = List.map pairD l := by
    have inj : ∀ d ∈ ds, ∃ p, d = pairD p := fun d hd => by
      obtain ⟨p, _, e⟩ := List.mem_map.mp (h.mem_iff.mp hd)
      exact ⟨p, e.symm⟩
    clear h
    induction ds with
    | nil => exact ⟨[], rfl⟩
    | cons d ds ih =>
      obtain ⟨l, e⟩ := ih fun x hx => inj x (List.mem_cons_of_mem _ hx)
      obtain ⟨p, e2⟩ := inj d List.mem_cons_self
      exact ⟨p :: l, by rw [e2, e]; rfl⟩
  obtain ⟨l, e⟩ := hh
  refine ⟨l, ?_, e⟩
  rw [e] at h
  let f : D → Int × PySem.Str := fun d => match d with | .tup [.int i, .str z] => (i, z) | _ => ((0 : Int), (default : PySem.Str))
  have hm := h.map f
  rw [List.map_map, List.map_map] at hm
  have idd : (f ∘ pairD) = id := funext fun q => rfl
  rw [idd, List.map_id, List.map_id] at hm
  exact hm
theorem dn_pw {K : PySem.W.Frag} {H : Hp} {R : V → V → Prop} {T : Int × PySem.Str → Int × PySem.Str → Prop} (hT : ∀ x y p q, Dn K H x (pairD p) → Dn K H y (pairD q) → R x y → T p q) : ∀ {vs : List V} {ps : List (Int × PySem.Str)}, DnL K H vs (ps.map pairD) → vs.Pairwise R → ps.Pairwise T
  | _, [], _, _ => .nil
  | _, p :: ps, .cons a r, .cons h1 h2 => by
    refine .cons (fun q hq => ?_) (dn_pw hT r h2)
    obtain ⟨n, hn⟩ := List.getElem?_of_mem hq
    obtain ⟨v, hv, rv⟩ := r.get (i := n) (d := pairD q) (by rw [List.getElem?_map, hn]; rfl)
    exact hT _ _ _ _ a rv (h1 _ (List.mem_of_getElem? hv))
theorem cd_sortP : CallD X (.builtin "sorted") rdSortP := ⟨_, cr_sortPS, fun H0 H M xs ds q Q S r w k => by
  obtain ⟨d, ys, ps, rfl, e, ep, hi, w⟩ := w
  obtain ⟨v, rfl, rv⟩ := dnl1 r
  obtain ⟨a, vs, rfl, hs, rs⟩ := S.lsq rv e
  have eq := pairsD_eq ep
  subst eq
  have ex : ∀ x ∈ vs, ∃ p ∈ ps, Dn X.K H0 x (pairD p) := fun x hx => by
    obtain ⟨n, hn⟩ := List.getElem?_of_mem hx
    obtain ⟨dd, h1, h2⟩ := rs.getV hn
    rw [List.getElem?_map] at h1
    obtain ⟨p, hp, rfl⟩ := omap h1
    exact ⟨p, List.mem_of_getElem? hp, h2⟩
  refine ⟨a, vs, ps, rfl, hs, fun x hx => ?_, hi, fun us b hs2 hp hb => ?_⟩
  · obtain ⟨p, m, z⟩ := ex x hx
    exact ⟨p, m, dn_pair (z.mono S.ex)⟩
  · obtain ⟨es, pe, re⟩ := rs.perm hp
    obtain ⟨ps', pp, rfl⟩ := map_pairs pe
    refine k.newL S re (w ps' pp (dn_pw (fun x y p q h1 h2 z => z p q (dn_pair (h1.mono S.ex)) (dn_pair (h2.mono S.ex))) re hs2)) b hb⟩
def kvsD : List D → Option (List (Key × D))
  | [] => some []
  | .tup [k, v] :: ds => match keyD k, kvsD ds with
    | some k, some r => some ((k, v) :: r)
    | _, _ => none
  | _ => none
def mergeD (acc : List (Key × D)) : List (Key × D) → List (Key × D)
  | [] => acc
  | kv :: r => mergeD (setK acc kv.1 kv.2) r
theorem KvL.merge {K : PySem.W.Frag} {H : Hp} : ∀ {r2 : List (Key × V)} {s2 : List (Key × D)}, KvL K H r2 s2 → ∀ {r : List (Key × V)} {s : List (Key × D)}, KvL K H r s → KvL K H (mergeK r r2) (mergeD s s2)
  | _, _, .nil, _, _, a => a
  | _, _, .cons (k := k) (v := v) (d := d) (r := r2) (s := s2) h b, r, s, a => by
    show KvL K H (mergeK (putK r k v) r2) (mergeD (setK s k d) s2)
    exact KvL.merge b (a.put h)
theorem kvs_dn {K : PySem.W.Frag} {H0 H : Hp} (e : Ext H0 H) : ∀ {xs : List D} {vs : List V} {kvs : List (Key × D)}, DnL K H0 vs xs → kvsD xs = some kvs → ∃ (ps : List Addr) (rvs : List (Key × V)), vs = ps.map V.ref ∧ Paired (fun p kv => SqT K H p [kV kv.1, kv.2]) ps rvs ∧ KvL K H0 rvs kvs
  | [], _, _, .nil, h => by cases h; exact ⟨[], [], rfl, .nil, .nil⟩
  | d :: xs, _, _, .cons a r, h => by
    unfold kvsD at h
    split at h
    · rename_i z; cases z
    · rename_i k v ds z
      cases z
      split at h
      · rename_i k' r' e1 e2
        cases h
        obtain ⟨ps, rvs, rfl, pp, kk⟩ := kvs_dn e r e2
        cases a with
        | tup q s =>
          obtain ⟨x, y, ee, rx, ry⟩ := dnl2 s
          subst ee
          have := keyD_dn rx e1
          subst this
          exact ⟨_ :: ps, (k', y) :: rvs, rfl, .cons (e.sqT q) pp, .cons ry kk⟩
      · cases h
    · cases h
def rdDictC : RDL := fun ds M q => ∃ d xs kvs, ds = [d] ∧ lsqOf M d = some xs ∧ kvsD xs = some kvs ∧ ∀ a, M a = none → q (.cel a) (mset M a (.dc (mergeD [] kvs)))
theorem cd_dictC (hc : X.calm = true) : CallD X (.type "dict") rdDictC := ⟨_, call_dictP hc, fun H0 H M xs ds q Q S r w k => by
  obtain ⟨d, ys, kvs, rfl, e, ek, w⟩ := w
  obtain ⟨v, rfl, rv⟩ := dnl1 r
  obtain ⟨a, vs, rfl, hs, rs⟩ := S.lsq rv e
  obtain ⟨ps, rvs, rfl, pp, kk⟩ := kvs_dn S.ex rs ek
  refine ⟨a, ps, rvs, rfl, hs, pp, fun p hp => ?_⟩
  exact k _ _ H0 _ _ (Ext.refl _) (S.put (x := .dc (mergeD [] kvs)) (S.fresh hp).1 fun _ e => ⟨_, e, KvL.merge kk .nil⟩) (.cel p) (w p (S.fresh hp).2)⟩
def inW (ok : Mem → Prop) (g : GD) (t : DT) (de : DE) (env : EnvD) (c : Addr) (nx : Mem → Prop) : List D → Mem → Prop
  | [], M => ok M ∧ nx M
  | x :: r, M => ok M ∧ g x env M (fun env' M' => t env' M' (fun b M2 => if b = true then de env' M2 (fun y M3 => ∃ xs, M3 c = some (.ls xs) ∧ xs.length < sizeLine ∧ inW ok g t de env c nx r (mset M3 c (.ls (xs ++ [y])))) noX else inW ok g t de env c nx r M2) noX) (fun _ => noX)
def lc2W (ok : Mem → Prop) (g : GD) (t : DT) (di1 : DI) (g1 : GD) (t1 : DT) (de : DE) (vs1 : List Nat) (env : EnvD) (q : QD) (c : Addr) : List D → Mem → Prop
  | [], M => ok M ∧ ∃ xs, M c = some (.ls xs) ∧ q (.lst xs) (mdel M c)
  | x :: r, M => ok M ∧ g x env M (fun env' M' => t env' M' (fun b M2 => if b = true then di1 env' M2 (fun items1 ok1 M3 => inW ok1 g1 t1 de (wipeD env' vs1) c (fun M4 => lc2W ok g t di1 g1 t1 de vs1 env q c r M4) items1 M3) noX else lc2W ok g t di1 g1 t1 de vs1 env q c r M2) noX) (fun _ => noX)
@[reducible] def dLc2 (di : DI) (g : GD) (t : DT) (di1 : DI) (g1 : GD) (t1 : DT) (de : DE) (vs vs1 : List Nat) : DE := fun env M q E => di env M (fun items ok M1 => ∀ c, M1 c = none → lc2W ok g t di1 g1 t1 de vs1 (wipeD env vs) q c items (mset M1 c (.ls []))) E
theorem wipe2 {σ : L2.St} (vs : List Nat) : wipe (wipe σ vs) vs = wipe σ vs := by
  have z : ∀ (ws : List Nat), (∀ v ∈ ws, v ∈ vs) → wipe (wipe σ vs) ws = wipe σ vs := fun ws => by
    induction ws with
    | nil => intro _; rfl
    | cons v ws ih =>
      intro hv
      show (wipe (wipe σ vs) ws).set v none = wipe σ vs
      rw [ih fun u hu => hv u (List.mem_cons_of_mem _ hu)]
      exact wipe_idem (hv v List.mem_cons_self)
  exact z vs fun _ h => h
theorem lift_lc2 {K : PySem.W.Frag} {di di1 : DI} {g g1 : GD} {t t1 : DT} {de : DE} {vs vs1 : List Nat} : ∀ σ H Q, liftE K W (dLc2 di g t di1 g1 t1 de vs vs1) σ H Q → tLc2 (liftI K W di) (liftGw K g vs) (liftT K WF t) (liftI K WF di1) (liftGw K g1 vs1) (liftT K WF t1) (liftE K WF de) vs vs1 σ H Q := fun σ H Q ⟨env, M, q, E, H0, so, S, h, k, kx⟩ =>
  goI so S h kx fun J items ok H1 H' M1 e1 so1 S1 io w kx1 => by
    intro Dl hD
    have S1' := S1.newCell (vs := []) (xs := []) hD .nil
    have sw := slot_wipe so1 vs
    refine ⟨fun i m H2 => m = items.length - i ∧ i ≤ items.length ∧ ∃ M2 H3, Ext H1 H3 ∧ SD K H3 H2 M2 ∧ lc2W ok g t di1 g1 t1 de vs1 (wipeD env vs) q Dl (items.drop i) M2,
      ⟨_, rfl, Nat.zero_le _, _, H1, Ext.refl _, S1', w Dl (S1.fresh hD).2⟩, ?_⟩
    rintro i m H2 ⟨rfl, hi2, M2, H3, e3, S3, w3⟩
    by_cases hlt : i < items.length
    · have hx : items[i]? = some items[i] := List.getElem?_eq_getElem hlt
      rw [List.drop_eq_getElem_cons hlt] at w3
      obtain ⟨o3, w3⟩ := w3
      obtain ⟨g1', g2⟩ := io.go H3 H2 M2 i _ e3 S3 o3 hx
      refine .inr ⟨g1', fun H4 => ∃ M4 H5, Ext H1 H5 ∧ SD K H5 H4 M4 ∧ lc2W ok g t di1 g1 t1 de vs1 (wipeD env vs) q Dl (items.drop (i + 1)) M4, fun H4 z => ⟨items.length - (i + 1), by omega, rfl, hlt, z⟩, fun x H4 y => ?_⟩
      obtain ⟨H5, e5, S5, r5⟩ := g2 x H4 y
      refine ⟨_, _, M2, _, H5, r5, sw.mono (e3.trans e5), S5, w3, fun σ6 env6 H6 H6' M6 e6 so6 S6 w6 wz => ⟨?_, goT so6 S6 w6 kx0 fun b H7 H7' M7 e7 so7 S7 w7 _ => ?_⟩⟩
      · rw [wz]; exact wipe2 vs
      · have e17 : Ext H1 H7 := ((e3.trans e5).trans e6).trans e7
        cases b with
        | false => exact iteF ⟨M7, H7, e17, S7, w7⟩
        | true =>
          refine iteT ?_
          refine goI so7 S7 (show di1 env6 M7 _ noX from w7) kx0 fun J1 items1 ok1 H8 H8' M8 e8 so8 S8 io1 w8 _ => ?_
          have sw1 := slot_wipe so8 vs1
          refine ⟨fun j m H9 => m = items1.length - j ∧ j ≤ items1.length ∧ ∃ M9 H10, Ext H8 H10 ∧ SD K H10 H9 M9 ∧ inW ok1 g1 t1 de (wipeD env6 vs1) Dl (fun M4 => lc2W ok g t di1 g1 t1 de vs1 (wipeD env vs) q Dl (items.drop (i + 1)) M4) (items1.drop j) M9,
            ⟨_, rfl, Nat.zero_le _, _, H8, Ext.refl _, S8, w8⟩, ?_⟩
          rintro j m H9 ⟨rfl, hj2, M9, H10, e10, S10, w10⟩
          by_cases hlj : j < items1.length
          · have hx1 : items1[j]? = some items1[j] := List.getElem?_eq_getElem hlj
            rw [List.drop_eq_getElem_cons hlj] at w10
            obtain ⟨o10, w10⟩ := w10
            obtain ⟨k1, k2⟩ := io1.go H10 H9 M9 j _ e10 S10 o10 hx1
            refine .inr ⟨k1, fun H4 => ∃ M4 H5, Ext H8 H5 ∧ SD K H5 H4 M4 ∧ inW ok1 g1 t1 de (wipeD env6 vs1) Dl (fun M4 => lc2W ok g t di1 g1 t1 de vs1 (wipeD env vs) q Dl (items.drop (i + 1)) M4) (items1.drop (j + 1)) M4, fun H4 z => ⟨items1.length - (j + 1), by omega, rfl, hlj, z⟩, fun x1 H11 y1 => ?_⟩
            obtain ⟨H12, e12, S12, r12⟩ := k2 x1 H11 y1
            refine ⟨_, _, M9, _, H12, r12, sw1.mono (e10.trans e12), S12, w10, fun σ13 env13 H13 H13' M13 e13 so13 S13 w13 wz1 => ⟨?_, goT so13 S13 w13 kx0 fun b1 H14 H14' M14 e14 so14 S14 w14 _ => ?_⟩⟩
            · rw [wz1]; exact wipe2 vs1
            · have e814 : Ext H8 H14 := ((e10.trans e12).trans e13).trans e14
              cases b1 with
              | true =>
                refine iteT ?_
                refine goE so14 S14 (show de env13 M14 _ noX from w14) kx0 fun v d H15 H15' M15 e15 so15 S15 r15 ⟨xs, ex, hl, w15⟩ _ => ?_
                obtain ⟨n0, us, e16, r16⟩ := S15.cell Dl xs ex
                exact ⟨us, e16, by rw [r16.length]; exact hl, _, H15, e814.trans e15, S15.write ex (r16.app (.one r15)), w15⟩
              | false => exact iteF ⟨M14, H14, e814, S14, w14⟩
          · have hge : items1.length ≤ j := Nat.le_of_not_lt hlj
            rw [List.drop_eq_nil_of_le hge] at w10
            exact .inl ⟨io1.stop H10 H9 M9 j e10 S10 w10.1 hge, M9, H10, (e17.trans e8).trans e10, S10, w10.2⟩
    · have hge : items.length ≤ i := Nat.le_of_not_lt hlt
      rw [List.drop_eq_nil_of_le hge] at w3
      obtain ⟨o3, xs, ex, w3⟩ := w3
      refine .inl ⟨io.stop H3 H2 M2 i e3 S3 o3 hge, ?_⟩
      obtain ⟨us, _, n0, S4, r4⟩ := S3.freeze ex
      exact k _ _ _ H2 _ ((e1.trans e3).trans (Ext.add n0)) S4 r4 w3
theorem pd_lc2 {elt tg iter tg1 iter1 : Expr} {ifs ifs1 : List Expr} {scope : Scope} {own : List (Str × Nat)} {vs1 : List Nat} {pos : Pos} {di di1 : DI} {g g1 : GD} {t t1 : DT} {de : DE} (hc : X.calm = true) (hN : X.N.Nodup) (hi : ID X W tg iter di) (ok : BlkOk X.N X.env.scope scope own) (hv : ∀ i ∈ vs1, i ∈ own.map (·.2))
    (hg : ∀ (s : Shared) (H : Hp) (C : Addr) (cl : List (Str × Addr)) (fp : List Addr), TgW (X.blk s H scope (compEnvC scope cl C X.env) fp) tg g (own.map (·.2))) (ht : ∀ (s : Shared) (H : Hp) (C : Addr) (cl : List (Str × Addr)) (fp : List Addr), TsD (X.blk s H scope (compEnvC scope cl C X.env) fp) ifs t)
    (hi1 : ∀ (s : Shared) (H : Hp) (C : Addr) (cl : List (Str × Addr)) (fp : List Addr), ID (X.blk s H scope (compEnvC scope cl C X.env) fp) WF tg1 iter1 di1)
    (hg1 : ∀ (s : Shared) (H : Hp) (C : Addr) (cl : List (Str × Addr)) (fp : List Addr), TgW (X.blk s H scope (compEnvC scope cl C X.env) fp) tg1 g1 vs1) (ht1 : ∀ (s : Shared) (H : Hp) (C : Addr) (cl : List (Str × Addr)) (fp : List Addr), TsD (X.blk s H scope (compEnvC scope cl C X.env) fp) ifs1 t1)
    (he : ∀ (s : Shared) (H : Hp) (C : Addr) (cl : List (Str × Addr)) (fp : List Addr), PD (X.blk s H scope (compEnvC scope cl C X.env) fp) WF elt de) (hs : ∀ x, foldedSetIterable iter X.env x = pure x := by intro _; rfl) (hs1 : ∀ env x, foldedSetIterable iter1 env x = pure x := by intro _ _; rfl) :
    PD X W (.ListComp elt [⟨tg, iter, ifs, 0⟩, ⟨tg1, iter1, ifs1, 0⟩] scope pos) (dLc2 di g t di1 g1 t1 de (own.map (·.2)) vs1) :=
  peImp (pe_lc2 (g := liftGw X.K g (own.map Prod.snd)) (tt := liftT X.K WF t) (wi1 := liftI X.K WF di1) (g1 := liftGw X.K g1 vs1) (tt1 := liftT X.K WF t1) (te := liftE X.K WF de) hc hN hi ok hv hg ht hi1 hg1 ht1 he hs hs1) lift_lc2
end
end DL
set_option maxRecDepth 100000
set_option maxHeartbeats 4000000
namespace DL
open PySem PySem.Spec PyProof.Rows L2
section
variable {M : Mem} {q : QD}
theorem ifB {b : Bool} {A B : Prop} (h1 : b = true → A) (h2 : b = false → B) : if b = true then A else B := by
  cases b with
  | true => exact iteT (h1 rfl)
  | false => exact iteF (h2 rfl)
theorem ifD {p : Prop} [Decidable p] {A B : Prop} (h1 : p → A) (h2 : ¬ p → B) : if decide p = true then A else B := ifB (fun h => h1 (of_decide_eq_true h)) fun h => h2 (of_decide_eq_false h)
theorem ifYes {b : Bool} {A B : Prop} (h : b = true) (h1 : A) : if b = true then A else B := by rw [if_pos h]; exact h1
theorem ifNo {b : Bool} {A B : Prop} (h : b = false) (h1 : B) : if b = true then A else B := by rw [if_neg (by rw [h]; exact Bool.false_ne_true)]; exact h1
theorem ix_cel {c : Addr} {xs : List D} {i : Int} {d : D} (h : M c = some (.ls xs)) (e : atI xs i = some d) (w : q d M) : rdIx (.cel c) (.int i) M q := ⟨xs, i, d, celL_of h, rfl, e, w⟩
theorem ix_lst {xs : List D} {i : Int} {d : D} (e : atI xs i = some d) (w : q d M) : rdIx (.lst xs) (.int i) M q := ⟨xs, i, d, rfl, rfl, e, w⟩
theorem ix_tup {xs : List D} {i : Int} {d : D} (e : atI xs i = some d) (w : q d M) : rdIx (.tup xs) (.int i) M q := ⟨xs, i, d, rfl, rfl, e, w⟩
theorem ix_str {x : Str} {i : Int} {c : Nat} (z : x.length ≤ sizeLine) (e : atI x.cps.toList i = some c) (w : q (.str ⟨#[c]⟩) M) : rdIx (.str x) (.int i) M q := ⟨x, i, c, rfl, rfl, z, e, w⟩
theorem add_int {i j : Int} (w : q (.int (i + j)) M) : rdAdd (.int i) (.int j) M q := w
theorem add_str {a b : Str} (h : a.length + b.length ≤ sizeLine) (w : q (.str (a ++ b)) M) : rdAdd (.str a) (.str b) M q := ⟨h, w⟩
theorem add_tup {a b : List D} (h : a.length + b.length ≤ sizeLine) (w : q (.tup (a ++ b)) M) : rdAdd (.tup a) (.tup b) M q := ⟨h, w⟩
theorem add_lst {x y : D} {a b : List D} (hx : lstOf M x = some a) (hy : lstOf M y = some b) (h : a.length + b.length ≤ sizeLine) (w : q (.lst (a ++ b)) M) : rdAdd x y M q := by
  cases x with
  | lst _ => exact ⟨a, b, hx, hy, h, w⟩
  | cel _ => exact ⟨a, b, hx, hy, h, w⟩
  | _ => cases hx
theorem str_len (a : Str) : a.length = a.cps.toList.length := by
  show a.cps.size = _
  rw [Array.length_toList]
theorem sub_int {i j : Int} (w : q (.int (i - j)) M) : rdSub (.int i) (.int j) M q := ⟨trivial, w⟩
theorem mul_int {i j : Int} (c : IntMulOk i j) (w : q (.int (i * j)) M) : rdMul (.int i) (.int j) M q := ⟨c, w⟩
theorem mul_l {i j : Int} (c : -(2 ^ 64) < i) (c' : i < 2 ^ 64) (w : q (.int (i * j)) M) : rdMul (.int i) (.int j) M q := ⟨CMul.ok (.inl ⟨c, c'⟩), w⟩
theorem mul_r {i j : Int} (c : -(2 ^ 64) < j) (c' : j < 2 ^ 64) (w : q (.int (i * j)) M) : rdMul (.int i) (.int j) M q := ⟨CMul.ok (.inr ⟨c, c'⟩), w⟩
theorem mod_int {i j : Int} (c : 0 < j) (w : q (.int (i % j)) M) : rdMod (.int i) (.int j) M q := ⟨c, w⟩
/-- what is left: some number below -/
theorem mod_any {i j : Int} (c : 0 < j) (w : ∀ r, 0 ≤ r → r < j → q (.int r) M) : rdMod (.int i) (.int j) M q := ⟨c, w _ (Int.emod_nonneg _ (by omega)) (Int.emod_lt_of_pos _ c)⟩
theorem div_int {i j : Int} (c : 0 < j) (c' : j < 1073741824) (w : q (.int (i / j)) M) : rdDiv (.int i) (.int j) M q := ⟨⟨c, c'⟩, w⟩
theorem dm_int {i j : Int} (c : 0 < j) (c' : j < 1073741824) (w : q (.tup [.int (i / j), .int (i % j)]) M) : rdDivmod [.int i, .int j] M q := ⟨⟨c, c'⟩, w⟩
theorem lt_int {i j : Int} (w : q (.bl (decide (i < j))) M) : rdLt (.int i) (.int j) M q := ⟨trivial, w⟩
theorem le_int {i j : Int} (w : q (.bl (decide (i ≤ j))) M) : rdLe (.int i) (.int j) M q := ⟨trivial, w⟩
theorem gt_int {i j : Int} (w : q (.bl (decide (j < i))) M) : rdGt (.int i) (.int j) M q := ⟨trivial, w⟩
theorem ge_int {i j : Int} (w : q (.bl (decide (j ≤ i))) M) : rdGe (.int i) (.int j) M q := ⟨trivial, w⟩
theorem int_int {i : Int} (w : q (.int i) M) : rdInt [.int i] M q := w
theorem len_lst {xs : List D} (w : q (.int xs.length) M) : rdLen [.lst xs] M q := ⟨_, rfl, xs, rfl, w⟩
theorem len_tup {xs : List D} (w : q (.int xs.length) M) : rdLen [.tup xs] M q := ⟨_, rfl, xs, rfl, w⟩
theorem len_cel {c : Addr} {xs : List D} (h : M c = some (.ls xs)) (w : q (.int xs.length) M) : rdLen [.cel c] M q := ⟨_, rfl, xs, celL_of h, w⟩
theorem len_str {x : Str} (z : x.length ≤ sizeLine) (w : q (.int x.length) M) : rdLen [.str x] M q := ⟨_, rfl, z, w⟩
theorem eq_int {i j : Int} (w : q (.bl (decide (i = j))) M) : rdEq (.int i) (.int j) M q := by
  refine .inl ⟨.int i, .int j, rfl, rfl, rfl, rfl, ?_⟩
  have e : PyData.eqv (.int i) (.int j) = decide (i = j) := by
    first
    | rfl
    | (unfold PyData.eqv; rfl)
    | simp [PyData.eqv]
  rw [e]; exact w
theorem eq_str {i j : Str} (hi : PyData.strOk i = true) (hj : PyData.strOk j = true) (w : q (.bl (decide (i = j))) M) : rdEq (.str i) (.str j) M q := .inr ⟨i, j, rfl, rfl, w⟩
theorem ne_strA {i j : Str} (w : q (.bl (!decide (i = j))) M) : rdNe (.str i) (.str j) M q := .inr ⟨i, j, rfl, rfl, w⟩
theorem ne_int {i j : Int} (w : q (.bl (!decide (i = j))) M) : rdNe (.int i) (.int j) M q := by
  refine .inl ⟨.int i, .int j, rfl, rfl, rfl, rfl, ?_⟩
  have e : PyData.eqv (.int i) (.int j) = decide (i = j) := by
    first
    | rfl
    | (unfold PyData.eqv; rfl)
    | simp [PyData.eqv]
  rw [e]; exact w
end
/-- all cells that were there are as they were -/
def Kept (M M' : Mem) : Prop := ∀ c x, M c = some x → M' c = some x
theorem Kept.refl (M : Mem) : Kept M M := fun _ _ h => h
theorem Kept.trans {M M' M'' : Mem} (a : Kept M M') (b : Kept M' M'') : Kept M M'' := fun c x h => b c x (a c x h)
theorem Kept.new {M : Mem} {c : Addr} {x : Cel} (h : M c = none) : Kept M (mset M c x) := fun d y e => by
  by_cases q : d = c
  · subst q; rw [h] at e; cases e
  · rw [mset_ne q]; exact e
theorem Kept.put {M M' : Mem} {c : Addr} {x : Cel} (a : Kept M M') (h : M c = none) : Kept M (mset M' c x) := fun d y e => by
  by_cases q : d = c
  · subst q; rw [h] at e; cases e
  · rw [mset_ne q]; exact a d y e
theorem Kept.del {M M' : Mem} {c : Addr} (a : Kept M M') (h : M c = none) : Kept M (mdel M' c) := fun d y e => by
  by_cases q : d = c
  · subst q; rw [h] at e; cases e
  · unfold mdel; rw [if_neg q]; exact a d y e
/-- .. but one -/
def KeptB (k : Addr) (M M' : Mem) : Prop := ∀ c x, M c = some x → c ≠ k → M' c = some x
theorem KeptB.refl {k : Addr} (M : Mem) : KeptB k M M := fun _ _ h _ => h
theorem KeptB.trans {k : Addr} {M M' M'' : Mem} (a : KeptB k M M') (b : KeptB k M' M'') : KeptB k M M'' := fun c x h n => b c x (a c x h n) n
theorem Kept.b {k : Addr} {M M' : Mem} (a : Kept M M') : KeptB k M M' := fun c x h _ => a c x h
theorem KeptB.self {k : Addr} {M M' : Mem} {x : Cel} (a : KeptB k M M') : KeptB k M (mset M' k x) := fun c y h n => by rw [mset_ne n]; exact a c y h n
theorem KeptB.put {k : Addr} {M M' : Mem} {c : Addr} {x : Cel} (a : KeptB k M M') (h : M c = none) : KeptB k M (mset M' c x) := fun d y e n => by
  by_cases q : d = c
  · subst q; rw [h] at e; cases e
  · rw [mset_ne q]; exact a d y e n
theorem KeptB.del {k : Addr} {M M' : Mem} {c : Addr} (a : KeptB k M M') (h : M c = none) : KeptB k M (mdel M' c) := fun d y e n => by
  by_cases q : d = c
  · subst q; rw [h] at e; cases e
  · unfold mdel; rw [if_neg q]; exact a d y e n
theorem seq_kept {k : Addr} {M M' : Mem} {d : D} {xs : List D} (h : KeptB k M M') (n : d ≠ .cel k) (e : seqOf M d = some xs) : seqOf M' d = some xs := by
  cases d with
  | cel c => exact celL_of (h c _ (celL_eq e) fun z => n (by rw [z]))
  | lst _ => exact e
  | lsf _ => exact e
  | tup _ => exact e
  | _ => cases e
theorem len_seq {M : Mem} {q : QD} {d : D} {xs : List D} (e : seqOf M d = some xs) (w : q (.int xs.length) M) : rdLen [d] M q := by
  refine ⟨d, rfl, ?_⟩
  cases d with
  | str _ => cases e
  | _ => exact ⟨xs, e, w⟩
theorem ix_seq {M : Mem} {q : QD} {d : D} {xs : List D} {i : Int} {x : D} (e : seqOf M d = some xs) (h : atI xs i = some x) (w : q x M) : rdIx d (.int i) M q := by
  cases d with
  | str _ => cases e
  | _ => exact ⟨xs, i, x, e, rfl, h, w⟩
theorem atI_in {α : Type} {xs : List α} {i : Int} (h0 : 0 ≤ i) (h1 : i < xs.length) : ∃ x, atI xs i = some x ∧ x ∈ xs := by
  obtain ⟨n, rfl⟩ := Int.eq_ofNat_of_zero_le h0
  have hn : n < xs.length := by omega
  refine ⟨xs[n], ?_, List.getElem_mem hn⟩
  unfold atI ixN
  rw [if_pos h0, if_pos h1]
  exact List.getElem?_eq_getElem hn
theorem atI_nat {α : Type} {xs : List α} {n : Nat} {x : α} (h : xs[n]? = some x) : atI xs (n : Int) = some x := by
  have hn := (List.getElem?_eq_some_iff.mp h).1
  unfold atI ixN
  rw [if_pos (Int.natCast_nonneg n), if_pos (by omega)]
  exact h
theorem atI_zero {α : Type} {x : α} {xs : List α} : atI (x :: xs) 0 = some x := atI_nat (n := 0) rfl
section
variable {ok : Mem → Prop} {g : GD} {body : DS} {d : EndD} {xs : List D}
/-- a loop over a list: I i: ahead of the i-th turn -/
theorem for_lst (I : Nat → EnvD → Mem → Prop) (h0 : ∀ env M, I xs.length env M → ok M ∧ d.nx env M)
    (hs : ∀ i x env M, xs[i]? = some x → I i env M → ∀ nx : EnvD → Mem → Prop, (∀ env' M', I (i + 1) env' M' → nx env' M') → ok M ∧ g x env M (fun env' M' => body { d with nx := nx, ct := nx, bk := d.nx } env' M') d.ex) (env : EnvD) (M : Mem) (h : I 0 env M) : forW ok g body d xs env M := by
  have : ∀ (r : List D) (i : Nat) env M, r = xs.drop i → i ≤ xs.length → I i env M → forW ok g body d r env M := by
    intro r
    induction r with
    | nil =>
      intro i env M e hi hI
      have : i = xs.length := by
        have := congrArg List.length e
        rw [List.length_nil, List.length_drop] at this
        omega
      subst this
      exact h0 env M hI
    | cons x r ih =>
      intro i env M e hi hI
      have hlt : i < xs.length := by
        have := congrArg List.length e
        rw [List.length_cons, List.length_drop] at this
        omega
      rw [List.drop_eq_getElem_cons hlt] at e
      injection e with e1 e2
      exact hs i x env M (by rw [e1]; exact List.getElem?_eq_getElem hlt) hI _ fun env' M' h' => ih (i + 1) env' M' e2 hlt h'
  exact this xs 0 env M rfl (Nat.zero_le _) h
theorem for_rng {lo : Int} {n : Nat} (I : Nat → EnvD → Mem → Prop) (h0 : ∀ env M, I n env M → ok M ∧ d.nx env M)
    (hs : ∀ i env M, i < n → I i env M → ∀ nx : EnvD → Mem → Prop, (∀ env' M', I (i + 1) env' M' → nx env' M') → ok M ∧ g (.int (lo + (i : Nat))) env M (fun env' M' => body { d with nx := nx, ct := nx, bk := d.nx } env' M') d.ex) (env : EnvD) (M : Mem) (h : I 0 env M) : forW ok g body d (rngD lo n) env M := by
  have hl : (rngD lo n).length = n := by unfold rngD; rw [List.length_map, List.length_range]
  refine for_lst I (by rw [hl]; exact h0) (fun i x env M hx hI nx hn => ?_) env M h
  unfold rngD at hx
  rw [List.getElem?_map] at hx
  obtain ⟨j, hj, rfl⟩ := omap hx
  obtain ⟨h1, h2⟩ := List.getElem?_eq_some_iff.mp hj
  rw [List.length_range] at h1
  rw [List.getElem_range] at h2
  subst h2
  exact hs i env M h1 hI nx hn
end
section
variable {ok : Mem → Prop} {g : GD} {t : DT} {de : DE} {env : EnvD} {q : QD} {c : Addr} {xs : List D}
theorem lc_lst (I : Nat → Mem → Prop) (h0 : ∀ M, I xs.length M → ok M ∧ ∃ ys, M c = some (.ls ys) ∧ q (.lst ys) (mdel M c))
    (hs : ∀ i x M, xs[i]? = some x → I i M → ∀ nx : Mem → Prop, (∀ M', I (i + 1) M' → nx M') →
      ok M ∧ g x env M (fun env' M' => t env' M' (fun b M2 => if b = true then de env' M2 (fun y M3 => ∃ ys, M3 c = some (.ls ys) ∧ ys.length < sizeLine ∧ nx (mset M3 c (.ls (ys ++ [y])))) noX else nx M2) noX) (fun _ => noX)) (M : Mem) (h : I 0 M) : lcW ok g t de env q c xs M := by
  have : ∀ (r : List D) (i : Nat) M, r = xs.drop i → i ≤ xs.length → I i M → lcW ok g t de env q c r M := by
    intro r
    induction r with
    | nil =>
      intro i M e hi hI
      have : i = xs.length := by
        have := congrArg List.length e
        rw [List.length_nil, List.length_drop] at this
        omega
      subst this
      exact h0 M hI
    | cons x r ih =>
      intro i M e hi hI
      have hlt : i < xs.length := by
        have := congrArg List.length e
        rw [List.length_cons, List.length_drop] at this
        omega
      rw [List.drop_eq_getElem_cons hlt] at e
      injection e with e1 e2
      exact hs i x M (by rw [e1]; exact List.getElem?_eq_getElem hlt) hI _ fun M' h' => ih (i + 1) M' e2 hlt h'
  exact this xs 0 M rfl (Nat.zero_le _) h
/-- nothing but the new list changes: which items are taken, what is made of them -/
theorem lc_pure {M : Mem} (p : D → Bool) (f : D → D) (hc : M c = none) (hn : xs.length ≤ sizeLine) (hok : ∀ acc, ok (mset M c (.ls acc)))
    (hs : ∀ x, x ∈ xs → ∀ (acc : List D), acc.length < sizeLine → ∀ nx : Mem → Prop, (p x = true → nx (mset M c (.ls (acc ++ [f x])))) → (p x = false → nx (mset M c (.ls acc))) →
      g x env (mset M c (.ls acc)) (fun env' M' => t env' M' (fun b M2 => if b = true then de env' M2 (fun y M3 => ∃ ys, M3 c = some (.ls ys) ∧ ys.length < sizeLine ∧ nx (mset M3 c (.ls (ys ++ [y])))) noX else nx M2) noX) (fun _ => noX))
    (hq : q (.lst ((xs.filter p).map f)) M) : lcW ok g t de env q c xs (mset M c (.ls [])) := by
  refine lc_lst (fun i M' => M' = mset M c (.ls (((xs.take i).filter p).map f))) (fun M' e => ?_) (fun i x M' hx e nx hnx => ?_) _ (by rw [List.take_zero]; rfl)
  · subst e
    rw [List.take_length]
    refine ⟨hok _, _, mset_same, ?_⟩
    rw [mdel_mset hc]
    exact hq
  · subst e
    have hlt := (List.getElem?_eq_some_iff.mp hx).1
    have e1 : xs.take (i + 1) = xs.take i ++ [x] := by
      rw [List.take_succ, hx]; rfl
    refine ⟨hok _, hs x (List.mem_of_getElem? hx) _ ?_ nx (fun hp => hnx _ ?_) fun hp => hnx _ ?_⟩
    · rw [List.length_map]
      have := List.length_filter_le p (xs.take i)
      rw [List.length_take] at this
      omega
    · rw [e1, List.filter_append, List.map_append]
      have : ([x] : List D).filter p = [x] := by simp [hp]
      rw [this]; rfl
    · rw [e1, List.filter_append]
      have : ([x] : List D).filter p = [] := by simp [hp]
      rw [this, List.append_nil]
theorem in_lst {ok : Mem → Prop} {g : GD} {t : DT} {de : DE} {env : EnvD} {c : Addr} {nx0 : Mem → Prop} {xs : List D} (I : Nat → Mem → Prop) (h0 : ∀ M, I xs.length M → ok M ∧ nx0 M)
    (hs : ∀ i x M, xs[i]? = some x → I i M → ∀ nx : Mem → Prop, (∀ M', I (i + 1) M' → nx M') →
      ok M ∧ g x env M (fun env' M' => t env' M' (fun b M2 => if b = true then de env' M2 (fun y M3 => ∃ ys, M3 c = some (.ls ys) ∧ ys.length < sizeLine ∧ nx (mset M3 c (.ls (ys ++ [y])))) noX else nx M2) noX) (fun _ => noX)) (M : Mem) (h : I 0 M) : inW ok g t de env c nx0 xs M := by
  have : ∀ (r : List D) (i : Nat) M, r = xs.drop i → i ≤ xs.length → I i M → inW ok g t de env c nx0 r M := by
    intro r
    induction r with
    | nil =>
      intro i M e hi hI
      have : i = xs.length := by
        have := congrArg List.length e
        rw [List.length_nil, List.length_drop] at this
        omega
      subst this
      exact h0 M hI
    | cons x r ih =>
      intro i M e hi hI
      have hlt : i < xs.length := by
        have := congrArg List.length e
        rw [List.length_cons, List.length_drop] at this
        omega
      rw [List.drop_eq_getElem_cons hlt] at e
      injection e with e1 e2
      exact hs i x M (by rw [e1]; exact List.getElem?_eq_getElem hlt) hI _ fun M' h' => ih (i + 1) M' e2 hlt h'
  exact this xs 0 M rfl (Nat.zero_le _) h
theorem lc2_lst {ok : Mem → Prop} {g : GD} {t : DT} {di1 : DI} {g1 : GD} {t1 : DT} {de : DE} {vs1 : List Nat} {env : EnvD} {q : QD} {c : Addr} {xs : List D} (I : Nat → Mem → Prop) (h0 : ∀ M, I xs.length M → ok M ∧ ∃ ys, M c = some (.ls ys) ∧ q (.lst ys) (mdel M c))
    (hs : ∀ i x M, xs[i]? = some x → I i M → ∀ nx : Mem → Prop, (∀ M', I (i + 1) M' → nx M') →
      ok M ∧ g x env M (fun env' M' => t env' M' (fun b M2 => if b = true then di1 env' M2 (fun items1 ok1 M3 => inW ok1 g1 t1 de (wipeD env' vs1) c (fun M4 => nx M4) items1 M3) noX else nx M2) noX) (fun _ => noX)) (M : Mem) (h : I 0 M) : lc2W ok g t di1 g1 t1 de vs1 env q c xs M := by
  have : ∀ (r : List D) (i : Nat) M, r = xs.drop i → i ≤ xs.length → I i M → lc2W ok g t di1 g1 t1 de vs1 env q c r M := by
    intro r
    induction r with
    | nil =>
      intro i M e hi hI
      have : i = xs.length := by
        have := congrArg List.length e
        rw [List.length_nil, List.length_drop] at this
        omega
      subst this
      exact h0 M hI
    | cons x r ih =>
      intro i M e hi hI
      have hlt : i < xs.length := by
        have := congrArg List.length e
        rw [List.length_cons, List.length_drop] at this
        omega
      rw [List.drop_eq_getElem_cons hlt] at e
      injection e with e1 e2
      exact hs i x M (by rw [e1]; exact List.getElem?_eq_getElem hlt) hI _ fun M' h' => ih (i + 1) M' e2 hlt h'
  exact this xs 0 M rfl (Nat.zero_le _) h
theorem acc_put {M : Mem} {acc : List D} {y : D} {nx : Mem → Prop} (hz : acc.length < sizeLine) (h : nx (mset M c (.ls (acc ++ [y])))) : ∃ ys, (mset M c (.ls acc)) c = some (.ls ys) ∧ ys.length < sizeLine ∧ nx (mset (mset M c (.ls acc)) c (.ls (ys ++ [y]))) :=
  ⟨acc, mset_same, hz, by rw [mset_mset]; exact h⟩
end
theorem flats_str : ∀ xs : List Str, flats (xs.map D.str) = some (xs.map V.str)
  | [] => rfl
  | x :: xs => by
    show (match flat (.str x), flats (xs.map D.str) with | some v, some vs => some (v :: vs) | _, _ => none) = _
    rw [flats_str xs]; rfl
theorem flats_int : ∀ xs : List Int, flats (xs.map D.int) = some (xs.map V.int)
  | [] => rfl
  | x :: xs => by
    show (match flat (.int x), flats (xs.map D.int) with | some v, some vs => some (v :: vs) | _, _ => none) = _
    rw [flats_int xs]; rfl
theorem inV_str (x : Str) : ∀ xs : List Str, inV (.str x) (xs.map V.str) = decide (x ∈ xs)
  | [] => by simp [inV]
  | y :: ys => by
    have ih := inV_str x ys
    unfold inV at ih ⊢
    rw [List.map_cons, List.any_cons, ih]
    show ((y == x) || decide (x ∈ ys)) = _
    by_cases e : y = x
    · subst e; simp
    · simp [e, Ne.symm e]
theorem inV_int (x : Int) : ∀ xs : List Int, inV (.int x) (xs.map V.int) = decide (x ∈ xs)
  | [] => by simp [inV]
  | y :: ys => by
    have ih := inV_int x ys
    unfold inV at ih ⊢
    rw [List.map_cons, List.any_cons, ih]
    show ((y == x) || decide (x ∈ ys)) = _
    by_cases e : y = x
    · subst e; simp
    · simp [e, Ne.symm e]
section
variable {M : Mem} {q : QD}
theorem in_q {neg : Bool} {x d : D} {xs : List D} {v : V} {vs : List V} (e : seqOf M d = some xs) (ex : flat x = some v) (es : flats xs = some vs) (w : q (.bl (if neg then !inV v vs else inV v vs)) M) : rdIn neg x d M q := by
  cases d with
  | str _ => cases e
  | _ => exact ⟨xs, v, vs, e, ex, es, w⟩
theorem in_str {x : Str} {d : D} {xs : List Str} (e : seqOf M d = some (xs.map D.str)) (w : q (.bl (decide (x ∈ xs))) M) : rdIn false (.str x) d M q :=
  in_q e rfl (flats_str xs) (by rw [inV_str]; exact w)
theorem ni_str {x : Str} {d : D} {xs : List Str} (e : seqOf M d = some (xs.map D.str)) (w : q (.bl (!decide (x ∈ xs))) M) : rdIn true (.str x) d M q :=
  in_q e rfl (flats_str xs) (by rw [inV_str]; exact w)
theorem in_int {x : Int} {d : D} {xs : List Int} (e : seqOf M d = some (xs.map D.int)) (w : q (.bl (decide (x ∈ xs))) M) : rdIn false (.int x) d M q :=
  in_q e rfl (flats_int xs) (by rw [inV_int]; exact w)
theorem cut_to {α : Type} (xs : List α) (n : Nat) : cutD xs none (some (n : Int)) = xs.take n := by
  unfold cutD
  rw [HT.sIx_none, HT.sIx_nat, Nat.sub_zero, List.drop_zero]
  by_cases h : n ≤ xs.length
  · rw [Nat.min_eq_left h]
  · rw [Nat.min_eq_right (by omega), List.take_of_length_le (Nat.le_refl _), List.take_of_length_le (by omega)]
theorem cut_from {α : Type} (xs : List α) (n : Nat) : cutD xs (some (n : Int)) none = xs.drop n := by
  unfold cutD
  rw [HT.sIx_none, HT.sIx_nat]
  by_cases h : n ≤ xs.length
  · rw [Nat.min_eq_left h, List.take_of_length_le (by rw [List.length_drop]; omega)]
  · rw [Nat.min_eq_right (by omega), List.drop_of_length_le (Nat.le_refl _), List.drop_of_length_le (by omega), List.take_nil]
theorem sl_lst {xs : List D} {n : Nat} (w : q (.lst (xs.take n)) M) : rdSl (.lst xs) none (some (n : Int)) M q := ⟨xs, rfl, by rw [cut_to]; exact w⟩
theorem sl_tup {xs : List D} {n : Nat} (w : q (.tup (xs.take n)) M) : rdSl (.tup xs) none (some (n : Int)) M q := by
  show q (.tup (cutD xs none (some (n : Int)))) M
  rw [cut_to]; exact w
theorem slf_tup {xs : List D} {n : Nat} (w : q (.tup (xs.drop n)) M) : rdSl (.tup xs) (some (n : Int)) none M q := by
  show q (.tup (cutD xs (some (n : Int)) none)) M
  rw [cut_from]; exact w
theorem sl_cel {c : Addr} {xs : List D} {n : Nat} (h : M c = some (.ls xs)) (w : q (.lst (xs.take n)) M) : rdSl (.cel c) none (some (n : Int)) M q := ⟨xs, celL_of h, by rw [cut_to]; exact w⟩
theorem sl_str {x : Str} {n : Nat} (z : x.length ≤ sizeLine) (w : ∀ y : Str, y.cps.toList = x.cps.toList.take n → q (.str y) M) : rdSl (.str x) none (some (n : Int)) M q := by
  refine ⟨z, w _ ?_⟩
  have e : (cutS x none (some (n : Int))).cps.toList = cutD x.cps.toList none (some (n : Int)) := by
    unfold cutS cutD
    rw [str_len]
  rw [e, cut_to]
end
section
variable {M : Mem} {q : QD}
theorem min_int {i j : Int} (w : ∀ m, m ≤ i → m ≤ j → (m = i ∨ m = j) → q (.int m) M) : rdMin2 [.int i, .int j] M q := by
  show q (.int (if j < i then j else i)) M
  by_cases h : j < i
  · rw [if_pos h]; exact w j (by omega) (by omega) (.inr rfl)
  · rw [if_neg h]; exact w i (by omega) (by omega) (.inl rfl)
theorem max_int {i j : Int} (w : ∀ m, i ≤ m → j ≤ m → (m = i ∨ m = j) → q (.int m) M) : rdMax2 [.int i, .int j] M q := by
  show q (.int (if j > i then j else i)) M
  by_cases h : j > i
  · rw [if_pos h]; exact w j (by omega) (by omega) (.inr rfl)
  · rw [if_neg h]; exact w i (by omega) (by omega) (.inl rfl)
theorem sl_lsf {xs : List D} {n : Nat} (w : q (.lst (xs.take n)) M) : rdSl (.lsf xs) none (some (n : Int)) M q := ⟨xs, rfl, by rw [cut_to]; exact w⟩
theorem pow_int {i j : Int} (c : CPow i j) (w : q (.int (i ^ j.toNat)) M) : rdPow (.int i) (.int j) M q := ⟨c, w⟩
theorem in_sign {c : Nat} {z : Str} (w : q (.bl (decide (c ∈ z.cps.toList))) M) : rdIn false (.str ⟨#[c]⟩) (.str z) M q := ⟨c, rfl, w⟩
theorem bls_all {b : Bool} : ∀ {xs : List D}, (∀ x ∈ xs, x = .bl b) → bls xs = some (xs.map fun _ => b)
  | [], _ => rfl
  | x :: xs, h => by
    have e := h x List.mem_cons_self
    subst e
    show (bls xs).map (b :: ·) = _
    rw [bls_all fun y hy => h y (List.mem_cons_of_mem _ hy)]
    rfl
theorem all_true {xs : List D} (h : ∀ x ∈ xs, x = .bl true) (w : q (.bl true) M) : rdAll [.lst xs] M q := by
  refine ⟨_, xs, _, rfl, rfl, bls_all h, ?_⟩
  have : (xs.map fun _ => true).all id = true := by simp
  rw [this]; exact w
theorem any_false {xs : List D} (h : ∀ x ∈ xs, x = .bl false) (w : q (.bl false) M) : rdAny [.lst xs] M q := by
  refine ⟨_, xs, _, rfl, rfl, bls_all h, ?_⟩
  have : (xs.map fun _ => false).any id = false := by simp
  rw [this]; exact w
end
/-- no more than the other has, if all are there and none twice -/
theorem nodup_len {α : Type} [DecidableEq α] : ∀ {xs ys : List α}, xs.Nodup → (∀ x ∈ xs, x ∈ ys) → xs.length ≤ ys.length
  | [], _, _, _ => Nat.zero_le _
  | x :: xs, ys, hn, h => by
    have hx := h x List.mem_cons_self
    obtain ⟨hn1, hn2⟩ := List.nodup_cons.mp hn
    have h2 : xs.length ≤ (ys.erase x).length := nodup_len hn2 fun y hy => by
      have hne : y ≠ x := fun e => hn1 (e ▸ hy)
      exact (List.mem_erase_of_ne hne).mpr (h y (List.mem_cons_of_mem _ hy))
    rw [List.length_erase_of_mem hx] at h2
    have : 0 < ys.length := List.length_pos_of_mem hx
    rw [List.length_cons]
    omega
end DL
set_option maxRecDepth 100000
set_option maxHeartbeats 4000000
namespace DL
open PySem PySem.Spec PyProof.Rows L2
def Pok (P : Program) (w : World) (K : PySem.W.Frag) (mg : Str → Option Value) (base : Heap) (C : Addr) (f : Str) (k : Nat) (sd : SpD) : Prop :=
  Cls K C ∧ ∃ (p g : Addr) (fd : FuncData) (ps : List Str), PropOf K C f p g ∧ Binds K fd ps [] ∧ FnOk P w K mg base (L2.CX P w) k g fd ps (spOf K 1 sd)
section
variable {X : Cx} {W : WX}
@[reducible] def dProp (C : Addr) (sd : SpD) (de : DE) : DE := fun env M q E => de env M (fun o M1 => ∃ fs, fsOf M1 C o = some fs ∧ sd [o] M1 q noX) E
theorem pd_prop {k : Nat} {C : Addr} {f : Str} {sd : SpD} {e : Expr} {de : DE} {pos : Pos} (F : Pok X.prog X.w X.K X.mg X.base C f k sd) (hr : Room (k + 1) X.A) (he : PD X W e de) (hab : attributeBase e f X.env (eval e X.env) = eval e X.env := by rfl) :
    PD X W (.Attribute e f pos) (dProp C sd de) := by
  obtain ⟨c, p, g, fd, ps, hp, hb, F⟩ := F
  exact peImp (pe_prop he c hp F hr hb .nil passL hab) fun σ H Q ⟨env, M, q, E, H0, so, S, h, k, kx⟩ => goE so S h kx fun x dx H1 H' M1 e1 so1 S1 rx ⟨fs, ef, w⟩ kx1 => by
    obtain ⟨a, d, fvs, rfl, q1, r⟩ := S1.obj rx ef
    exact ⟨a, d, fvs, rfl, q1, [dx], M1, q, noX, H1, rfl, .cons rx .nil, S1, w, k.mono e1, kx0⟩
def permL {α : Type} (pm : List Nat) (xs : List α) : List α := pm.filterMap fun i => xs[i]?
theorem permL_vals {xs : List V} {us : List Value} (r : Vals xs us) : ∀ pm : List Nat, Vals (permL pm xs) (permL pm us)
  | [] => .nil
  | i :: pm => by
    have ih := permL_vals r pm
    unfold permL at ih ⊢
    rw [List.filterMap_cons, List.filterMap_cons]
    cases hx : xs[i]? with
    | none =>
      have : us[i]? = none := by rw [List.getElem?_eq_none_iff] at hx ⊢; rw [← r.length]; exact hx
      rw [this]; exact ih
    | some x =>
      obtain ⟨u, hu, ru⟩ := r.get hx
      rw [hu]
      exact .cons ru ih
theorem permL_dn {K : PySem.W.Frag} {H : Hp} {vs : List V} {ds : List D} (r : DnL K H vs ds) : ∀ pm : List Nat, DnL K H (permL pm vs) (permL pm ds)
  | [] => .nil
  | i :: pm => by
    have ih := permL_dn r pm
    unfold permL at ih ⊢
    rw [List.filterMap_cons, List.filterMap_cons]
    cases hx : vs[i]? with
    | none =>
      have : ds[i]? = none := by rw [List.getElem?_eq_none_iff] at hx ⊢; rw [← r.length]; exact hx
      rw [this]; exact ih
    | some x =>
      obtain ⟨u, hu, ru⟩ := r.getV hx
      rw [hu]
      exact .cons ru ih
def dcW (ok : Mem → Prop) (g : GD) (t : DT) (dk dv : DE) (env : EnvD) (q : QD) (c : Addr) : List D → Mem → Prop
  | [], M => ok M ∧ q (.cel c) M
  | x :: r, M => ok M ∧ g x env M (fun env' M' => t env' M' (fun b M2 => if b = true then dk env' M2 (fun y M3 => dv env' M3 (fun z M4 => ∃ s k, keyD y = some k ∧ M4 c = some (.dc s) ∧ s.length < sizeLine ∧ dcW ok g t dk dv env q c r (mset M4 c (.dc (setK s k z)))) noX) noX else dcW ok g t dk dv env q c r M2) noX) (fun _ => noX)
@[reducible] def dDc (di : DI) (g : GD) (t : DT) (dk dv : DE) (vs : List Nat) : DE := fun env M q E => di env M (fun items ok M1 => ∀ c, M1 c = none → dcW ok g t dk dv (wipeD env vs) q c items (mset M1 c (.dc []))) E
theorem SD.dput {K : PySem.W.Frag} {H0 H : Hp} {M : Mem} (S : SD K H0 H M) {c : Addr} {s : List (Key × D)} {r : List (Key × V)} (n0 : H0 c = none) (h : KvL K H0 r s) : SD K H0 (upd H c (.dK r)) (mset M c (.dc s)) := S.put (x := .dc s) n0 fun _ e => ⟨_, e, h⟩
theorem lift_dc {K : PySem.W.Frag} {di : DI} {g : GD} {t : DT} {dk dv : DE} {vs : List Nat} : ∀ σ H Q, liftE K W (dDc di g t dk dv vs) σ H Q → tDc (liftI K W di) (liftGw K g vs) (liftT K WF t) (liftE K WF dk) (liftE K WF dv) vs σ H Q := fun σ H Q ⟨env, M, q, E, H0, so, S, h, k, kx⟩ =>
  goI so S h kx fun J items ok H1 H' M1 e1 so1 S1 io w kx1 => by
    intro Dl hD
    have S1' := S1.dput (s := []) (r := []) (S1.fresh hD).1 .nil
    have sw := slot_wipe so1 vs
    refine ⟨fun i m H2 => m = items.length - i ∧ i ≤ items.length ∧ ∃ M2 H3, Ext H1 H3 ∧ SD K H3 H2 M2 ∧ dcW ok g t dk dv (wipeD env vs) q Dl (items.drop i) M2,
      ⟨_, rfl, Nat.zero_le _, _, H1, Ext.refl _, S1', w Dl (S1.fresh hD).2⟩, ?_⟩
    rintro i m H2 ⟨rfl, hi2, M2, H3, e3, S3, w3⟩
    by_cases hlt : i < items.length
    · have hx : items[i]? = some items[i] := List.getElem?_eq_getElem hlt
      rw [List.drop_eq_getElem_cons hlt] at w3
      obtain ⟨o3, w3⟩ := w3
      obtain ⟨g1, g2⟩ := io.go H3 H2 M2 i _ e3 S3 o3 hx
      refine .inr ⟨g1, fun H4 => ∃ M4 H5, Ext H1 H5 ∧ SD K H5 H4 M4 ∧ dcW ok g t dk dv (wipeD env vs) q Dl (items.drop (i + 1)) M4, fun H4 z => ⟨items.length - (i + 1), by omega, rfl, hlt, z⟩, fun x H4 y => ?_⟩
      obtain ⟨H5, e5, S5, r5⟩ := g2 x H4 y
      refine ⟨_, _, M2, _, H5, r5, sw.mono (e3.trans e5), S5, w3, fun σ6 env6 H6 H6' M6 e6 so6 S6 w6 wz => ⟨?_, goT so6 S6 w6 kx0 fun b H7 H7' M7 e7 so7 S7 w7 _ => ?_⟩⟩
      · have z : ∀ (ws : List Nat), (∀ v ∈ ws, v ∈ vs) → wipe (wipe σ vs) ws = wipe σ vs := fun ws => by
          induction ws with
          | nil => intro _; rfl
          | cons v ws ih =>
            intro hv
            show (wipe (wipe σ vs) ws).set v none = wipe σ vs
            rw [ih fun u hu => hv u (List.mem_cons_of_mem _ hu)]
            exact wipe_idem (hv v List.mem_cons_self)
        rw [wz]
        exact z vs fun _ h => h
      · have e17 : Ext H1 H7 := ((e3.trans e5).trans e6).trans e7
        cases b with
        | true =>
          refine iteT ?_
          refine goE so7 S7 (show dk env6 M7 _ noX from w7) kx0 fun v d H8 H8' M8 e8 so8 S8 r8 w8 _ => ?_
          refine goE so8 S8 w8 kx0 fun v' d' H9 H9' M9 e9 so9 S9 r9 ⟨s, kk, ek, ex, hl, w9⟩ _ => ?_
          obtain ⟨n0, us, e10, r10⟩ := S9.dict ex
          exact ⟨us, kk, keyD_dn r8 ek, e10, by rw [r10.length]; exact hl, _, H9, (e17.trans e8).trans e9, S9.dput n0 (r10.put r9), w9⟩
        | false => exact iteF ⟨M7, H7, e17, S7, w7⟩
    · have hge : items.length ≤ i := Nat.le_of_not_lt hlt
      rw [List.drop_eq_nil_of_le hge] at w3
      obtain ⟨o3, w3⟩ := w3
      exact .inl ⟨io.stop H3 H2 M2 i e3 S3 o3 hge, k _ _ H3 H2 _ (e1.trans e3) S3 (.cel Dl) w3⟩
theorem pd_dc {kx vx tg iter : Expr} {ifs : List Expr} {scope : Scope} {own : List (Str × Nat)} {pos : Pos} {di : DI} {g : GD} {t : DT} {dk dv : DE} (hc : X.calm = true) (hN : X.N.Nodup) (hi : ID X W tg iter di) (ok : BlkOk X.N X.env.scope scope own)
    (hg : ∀ (s : Shared) (H : Hp) (C : Addr) (cl : List (Str × Addr)) (fp : List Addr), TgW (X.blk s H scope (compEnvC scope cl C X.env) fp) tg g (own.map (·.2))) (ht : ∀ (s : Shared) (H : Hp) (C : Addr) (cl : List (Str × Addr)) (fp : List Addr), TsD (X.blk s H scope (compEnvC scope cl C X.env) fp) ifs t)
    (hk : ∀ (s : Shared) (H : Hp) (C : Addr) (cl : List (Str × Addr)) (fp : List Addr), PD (X.blk s H scope (compEnvC scope cl C X.env) fp) WF kx dk)
    (he : ∀ (s : Shared) (H : Hp) (C : Addr) (cl : List (Str × Addr)) (fp : List Addr), PD (X.blk s H scope (compEnvC scope cl C X.env) fp) WF vx dv) (hs : ∀ x, foldedSetIterable iter X.env x = pure x := by intro _; rfl) :
    PD X W (.DictComp kx vx [⟨tg, iter, ifs, 0⟩] scope pos) (dDc di g t dk dv (own.map (·.2))) := peImp (pe_dc (g := liftGw X.K g (own.map Prod.snd)) (tt := liftT X.K WF t) (tk := liftE X.K WF dk) (tv := liftE X.K WF dv) hc hN hi ok hg ht hk he hs) lift_dc
theorem ps_setDc {i : Nat} {y : Str} {py : Pos} {kx vx tg iter : Expr} {ifs : List Expr} {scope : Scope} {own : List (Str × Nat)} {pos spos : Pos} {wi : TI} {g : TG} {tt : TT} {tk tv : TE} (hc : X.calm = true) (hN : X.N.Nodup) (hy : X.N[i]? = some y) (hyl : X.env.scope.names.lookup y = some .local)
    (hsw : swapsWith (.DictComp kx vx [⟨tg, iter, ifs, 0⟩] scope pos) (some (.Name y py)) spos.line X.env = pure true) (hi : PI X tg iter wi) (ok : BlkOk X.N X.env.scope scope own)
    (hg : ∀ (s : Shared) (H : Hp) (C : Addr) (cl : List (Str × Addr)) (fp : List Addr), PG (X.blk s H scope (compEnvC scope cl C X.env) fp) tg g) (ht : ∀ (s : Shared) (H : Hp) (C : Addr) (cl : List (Str × Addr)) (fp : List Addr), PTs (X.blk s H scope (compEnvC scope cl C X.env) fp) ifs tt)
    (hk : ∀ (s : Shared) (H : Hp) (C : Addr) (cl : List (Str × Addr)) (fp : List Addr), PE (X.blk s H scope (compEnvC scope cl C X.env) fp) kx tk)
    (he : ∀ (s : Shared) (H : Hp) (C : Addr) (cl : List (Str × Addr)) (fp : List Addr), PE (X.blk s H scope (compEnvC scope cl C X.env) fp) vx tv) (hs : ∀ x, foldedSetIterable iter X.env x = pure x := by intro _; rfl) :
    PS X (.Assign [.Name y py] (.DictComp kx vx [⟨tg, iter, ifs, 0⟩] scope pos) spos) (tAsg (tDc wi g tt tk tv (own.map (·.2))) (gName i)) := by
  refine ⟨fun pins s σ H D I h => ?_⟩
  rw [exec_Assign_Name_used _ _ _ _ hsw]
  refine wpAny_bind (wpAny_standAt (wpAny_bind ?_))
  show wpAny _ X.A (do let _ ← comprehension (.DictComp kx vx [⟨tg, iter, ifs, 0⟩] scope pos) scope X.env (firstIterPos [⟨tg, iter, ifs, 0⟩] pos) newDict false (eval iter X.env) (some (assign (.Name y py) X.env))) _ _ s
  have h : tDc wi g tt tk tv (own.map (·.2)) σ H (fun x H1 => gName i x σ H1 D.nx) := h
  refine wpAny_bind (thn (dc_core (Qf := fun _ s' => SP X pins D .next s') hc hN I hi ok hg ht hk he hs h fun L C s' m H' I' q hn f => ?_) fun _ s' hq => wpAny_pure (wpAny_pure hq))
  show wpAny _ _ (assign (.Name y py) X.env (.ref L)) _ _ _
  refine wpAny_assign_Name (store_ok2 (v := V.ref L) I' hN hy (.inl hyl) rfl (fun s2 I2 ⟨a, sb, ha⟩ => ?_) (.inr hyl))
  obtain ⟨f0, f1, f2, f3, f4, f5⟩ := f
  have haC : C ≠ a := by
    rcases ha with z | z
    · rw [z]; exact f1
    · exact fun e => f4 y a z e.symm
  refine ⟨m, hn.sameBut sb haC, fun h3 sb3 => ?_⟩
  exact ⟨_, H', I2.turned (t' := s2.toks) (fun b o hb e => (sb3.2 b hb).trans e) f0 f1 f3 f4 f5, q⟩
theorem sw_trueD {kx vx : Expr} {gs : List Comprehension} {scope : Scope} {pos py : Pos} {y : Str} {l : Nat} {env : Env} (hk : env.scope.kind = .function) (hy : env.scope.names.lookup y = some .local) (hl : (py.line == pos.line) = true)
    (ha : (scope.names.any fun (n, k) => n == y && (k == .local || k == .cell)) = false) : swapsWith (.DictComp kx vx gs scope pos) (some (.Name y py)) l env = pure true := by
  have ky : env.kindOf y = some .local := hy
  have hb : env.blockKind = .function := by unfold Env.blockKind; rw [hk]; rfl
  unfold swapsWith
  simp only [hb, ky, ha, Expr.pos, hl]
  rfl
theorem sd_setDc (i : Nat) {y : Str} {py : Pos} {kx vx tg iter : Expr} {ifs : List Expr} {scope : Scope} {own : List (Str × Nat)} {pos spos : Pos} {di : DI} {g : GD} {t : DT} {dk dv : DE} (hc : X.calm = true) (hN : X.N.Nodup)
    (hsw : swapsWith (.DictComp kx vx [⟨tg, iter, ifs, 0⟩] scope pos) (some (.Name y py)) spos.line X.env = pure true) (hi : ID X W tg iter di) (ok : BlkOk X.N X.env.scope scope own)
    (hg : ∀ (s : Shared) (H : Hp) (C : Addr) (cl : List (Str × Addr)) (fp : List Addr), TgW (X.blk s H scope (compEnvC scope cl C X.env) fp) tg g (own.map (·.2))) (ht : ∀ (s : Shared) (H : Hp) (C : Addr) (cl : List (Str × Addr)) (fp : List Addr), TsD (X.blk s H scope (compEnvC scope cl C X.env) fp) ifs t)
    (hk : ∀ (s : Shared) (H : Hp) (C : Addr) (cl : List (Str × Addr)) (fp : List Addr), PD (X.blk s H scope (compEnvC scope cl C X.env) fp) WF kx dk)
    (he : ∀ (s : Shared) (H : Hp) (C : Addr) (cl : List (Str × Addr)) (fp : List Addr), PD (X.blk s H scope (compEnvC scope cl C X.env) fp) WF vx dv) (hy : X.N[i]? = some y := by rfl) (hyl : X.env.scope.names.lookup y = some .local := by rfl)
    (hs : ∀ x, foldedSetIterable iter X.env x = pure x := by intro _; rfl) : SDt X W (.Assign [.Name y py] (.DictComp kx vx [⟨tg, iter, ifs, 0⟩] scope pos) spos) (dSet i (dDc di g t dk dv (own.map (·.2)))) :=
  psImp (ps_setDc (g := liftGw X.K g (own.map Prod.snd)) (tt := liftT X.K WF t) (tk := liftE X.K WF dk) (tv := liftE X.K WF dv) hc hN hy hyl hsw hi ok hg ht hk he hs) fun D σ H ⟨env, M, d, H0, so, S, h, k⟩ =>
    lift_dc σ H _ (goE so S h (k.ex.at so) fun x dx H1 H' M1 e1 so1 S1 rx w kx1 => k.nx _ _ H1 H' M1 e1 (so1.set i rx) S1 w)
end
section
variable {ok : Mem → Prop} {g : GD} {t : DT} {dk dv : DE} {env : EnvD} {q : QD} {c : Addr} {xs : List D}
theorem dc_lst (I : Nat → Mem → Prop) (h0 : ∀ M, I xs.length M → ok M ∧ q (.cel c) M)
    (hs : ∀ i x M, xs[i]? = some x → I i M → ∀ nx : Mem → Prop, (∀ M', I (i + 1) M' → nx M') →
      ok M ∧ g x env M (fun env' M' => t env' M' (fun b M2 => if b = true then dk env' M2 (fun y M3 => dv env' M3 (fun z M4 => ∃ s k, keyD y = some k ∧ M4 c = some (.dc s) ∧ s.length < sizeLine ∧ nx (mset M4 c (.dc (setK s k z)))) noX) noX else nx M2) noX) (fun _ => noX)) (M : Mem) (h : I 0 M) : dcW ok g t dk dv env q c xs M := by
  have : ∀ (r : List D) (i : Nat) M, r = xs.drop i → i ≤ xs.length → I i M → dcW ok g t dk dv env q c r M := by
    intro r
    induction r with
    | nil =>
      intro i M e hi hI
      have : i = xs.length := by
        have := congrArg List.length e
        rw [List.length_nil, List.length_drop] at this
        omega
      subst this
      exact h0 M hI
    | cons x r ih =>
      intro i M e hi hI
      have hlt : i < xs.length := by
        have := congrArg List.length e
        rw [List.length_cons, List.length_drop] at this
        omega
      rw [List.drop_eq_getElem_cons hlt] at e
      injection e with e1 e2
      exact hs i x M (by rw [e1]; exact List.getElem?_eq_getElem hlt) hI _ fun M' h' => ih (i + 1) M' e2 hlt h'
  exact this xs 0 M rfl (Nat.zero_le _) h
end
section
variable {M : Mem} {q : QD}
theorem eq_strA {i j : Str} (w : q (.bl (decide (i = j))) M) : rdEq (.str i) (.str j) M q := .inr ⟨i, j, rfl, rfl, w⟩
end
end DL
set_option maxRecDepth 100000
set_option maxHeartbeats 4000000
namespace DL
open PySem PySem.Spec PyProof.Rows L2
def rSortedSQ (K : PySem.W.Frag) : List V → Hp → VK → Prop := fun vs H Q => ∃ (a : Addr) (xs : List Str), vs = [V.ref a] ∧ (SqL K H a (xs.map V.str) ∨ SqT K H a (xs.map V.str)) ∧ xs.length < 64 ∧
  ∀ (ys : List Str) (p : Addr), ys.Perm xs → sortedS ys = true → H p = none → Q (.ref p) (upd H p (.lst (ys.map V.str)))
theorem sorted_strsQ {prog : Program} {w : World} {A : Around} {E : Value → Shared → Prop} {s : Shared} {l : Addr} {T : String} {o : Obj} {vs : List Value} {n : Nat} {ss : List Str} {Q : Value → Shared → Prop}
    (hT : T = "list" ∨ T = "tuple") (ho : s.heap.get? l = some o) (hc : o.cls = .type T) (hd : o.data = .seq vs.toArray n) (hS : StrsAre vs ss) (h64 : vs.length < 64)
    (h : ∀ (h1 : Heap), (∀ b o, s.heap.get? b = some o → h1.get? b = some o) → ∀ (h' : Heap) (d : Addr) (out : List Value) (ss' : List Str), StrsAre out ss' → ss'.Perm ss → sortedS ss' = true → (∀ b o, h1.get? b = some o → h'.get? b = some o) → h1.objs.size ≤ d → (∃ e, h'.get? d = some (seqObj "list" out.toArray e)) → Q (.ref d) { s with heap := h' }) :
    wpAny (model prog w) A (call (.builtin "sorted") [.ref l]) Q E s := by
  have hz : vs.length ≤ sizeLine := by rw [sizeLine_eq]; omega
  refine Calls.call_function_entry kind_sorted plain_sorted entry_sorted (args_sorted1 _) ?_
  unfold Builtin.«sorted»
  refine wpAny_bind (m := checkCount "sorted" 1 1 _) (wpAny_pure ?_)
  refine wpAny_bind (wpAny_collect_seq l hT ho hc hd (fun h1 keep => ?_) (by simpa using hz))
  refine wpAny_bind (wpAny_newList ?_ (by simpa using hz))
  have hoL : (h1.push (seqObj "list" vs.toArray 0)).get? h1.objs.size = some (seqObj "list" vs.toArray 0) := Heap.get?_push_size _ rfl
  show wpAny _ _ _ _ _ { s with heap := h1.push (seqObj "list" vs.toArray 0) }
  refine wpAny_bind (wpAny_holding (wpAny_call_entry slot_list_sort ⟨_, hoL, rfl⟩ entry_list_sort
    (list_sort_treeK strKind_oneLt hoL hS.keysOf (fun v₁ v₂ rest e => keyKind_strs (by rw [← e]; exact hS)) h64 fun st' hp hs => ?_) (args_list_sort _)))
  obtain ⟨ys, g1, g2, g3⟩ := sorted_out_str hS hp hs
  obtain ⟨ep, he'⟩ := PyProof.Rows.sortedHeap_at (vs := vs) (out := (arrOf st').map (·.2)) hoL
  refine ⟨.none, rfl, ?_⟩
  refine wpAny_pure ⟨_, rfl, h h1 keep _ _ ((arrOf st').map (·.2)).toList ys g1 g2 g3 (fun b u hu => ?_) (Nat.le_refl _) ⟨ep, by rw [Array.toArray_toList]; exact he'⟩⟩
  have hb := Heap.lt_size hu
  have hb2 : b < (h1.push (seqObj "list" vs.toArray 0)).objs.size := by
    have e : (h1.push (seqObj "list" vs.toArray 0)).objs.size = h1.objs.size + 1 := Heap.size_push ..
    exact Nat.lt_of_lt_of_le hb (by rw [e]; exact Nat.le_succ _)
  rw [PyProof.Rows.sortedHeap_old (Nat.ne_of_lt hb) hb2]
  exact Heap.get?_push_of_some _ hu
section
variable {X : Cx} {W : WX}
theorem cr_sortedSQ : CallR X (.builtin "sorted") (rSortedSQ X.K) := by
  intro pins s σ H vs us Q I r h
  obtain ⟨a, xs, rfl, hs, h64, q⟩ := h
  rw [Vals.ref1 r]
  have fin : ∀ (its : List Value) (T : String) (o : Obj) (n : Nat), Vals (xs.map V.str) its → T = "list" ∨ T = "tuple" → s.heap.get? a = some o → o.cls = .type T → o.data = .seq its.toArray n → wpAny (model X.prog X.w) X.A (call (.builtin "sorted") [.ref a]) (EP X pins σ Q) X.xe s := by
    intro its T o n rv hT ho hc hd
    have hlen0 := rv.length
    rw [List.length_map] at hlen0
    refine sorted_strsQ hT ho hc hd rv.strs (by rw [← hlen0]; exact h64) fun hh1 keep h' d out ys h1 h2 h3 kp hd2 ⟨ep, he'⟩ => ?_
    have I1 : Inv X pins σ H { s with heap := hh1 } := I.kept (t' := s.toks) keep
    have hlen : (ys.map V.str).length ≤ sizeLine := by rw [List.length_map, h2.length_eq, sizeLine_eq]; omega
    exact ⟨.ref d, upd H d (.lst (ys.map V.str)), I1.laid (t' := s.toks) kp hd2 ⟨hlen, out, ep, vals_of_strs h1, he'⟩, rfl, q ys _ h2 h3 (I1.hok.fresh hd2)⟩
  rcases hs with hs | hs
  · obtain ⟨its, rv, pl, _⟩ := I.list hs
    obtain ⟨o, ho, hc, n, hd⟩ := pl.isList
    exact fin its "list" o n rv (.inl rfl) ho hc hd
  · obtain ⟨its, rv, ⟨o, ho, hc, n, hd⟩, _⟩ := I.tuple hs
    exact fin its "tuple" o n rv (.inr rfl) ho hc hd
def rdSortS : RDL := fun ds M q => ∃ (d : D) (xs : List D) (ss : List Str), ds = [d] ∧ seqOf M d = some xs ∧ strsD xs = some ss ∧ ss.length < 64 ∧ ∀ ys : List Str, ys.Perm ss → sortedS ys = true → q (.lst (ys.map D.str)) M
theorem cd_sortS : CallD X (.builtin "sorted") rdSortS := ⟨_, cr_sortedSQ, fun H0 H M xs ds q Q S r w k => by
  obtain ⟨d, ys, ss, rfl, e, es, h64, w⟩ := w
  obtain ⟨v, rfl, rv⟩ := dnl1 r
  obtain ⟨a, vs, rfl, hs, rs⟩ := S.seq rv e
  have := strs_dn rs es
  subst this
  exact ⟨a, ss, rfl, hs, h64, fun ys p h1 h2 hp => k.newL S (dn_strs ys) (w ys h1 h2) p hp⟩⟩
end
end DL
set_option maxRecDepth 100000
set_option maxHeartbeats 4000000
namespace DL
open PySem PySem.Spec PyProof.Rows L2
theorem e0_of {K : PySem.W.Frag} {P : Program} {w : World} {H : Hp} {outer : List Env} {s : Shared} {u : Value} {s' : Shared} (h : L2.CX P w outer H s E0 u s') : False := by
  obtain ⟨_, _, _, _, _, _, _, _, _, _, _, _, z⟩ := h
  exact z
section
variable {X : Cx} {W : WX}
/-- the call of a special method, around A with the same frames -/
theorem run_own {k n : Nat} {f : Addr} {fd : FuncData} {ps : List Str} {sd : SpD} {pins : List (Addr × Obj)} {σ : L2.St} {H : Hp} {s : Shared} {us : List Value} {vs : List V} {A : Around} {E : Value → Shared → Prop} {Q : VK} (F : FnOk X.prog X.w X.K X.mg X.base (L2.CX X.prog X.w) k f fd ps (spOf X.K n sd)) (hr : Room k A) (hb : Binds X.K fd ps [])
    (hfr : A.frames = X.A.frames) (I : Inv X pins σ H s) (r : Vals vs us) (h : spOf X.K n sd vs H Q E0) : wpAny (model X.prog X.w) A (call (.ref f) us) (EP X pins σ Q) E s := by
  have e0 : Env0 X.prog X.w X.K X.mg X.base A X.stack s H := by
    have e := I.env0
    exact ⟨by rw [hfr]; exact e.frames, e.mod, e.bs, e.bsz, e.funs, e.frf, e.hok, e.bare⟩
  have hl : (us ++ []).length = ps.length := by
    rw [List.append_nil, ← r.length]; exact F.len _ _ _ _ h
  have hbb := hb s us I.kIn hl
  rw [List.append_nil] at hbb
  refine wpAny_call (codeAny_mono (F.run A X.stack s H ⟨us, []⟩ us vs Q E0 hr e0 hbb r h) fun res s' out => ?_)
  cases res with
  | error e => exact (e0_of (K := X.K) out).elim
  | ok fl =>
    cases fl with
    | ret u => exact I.after out
    | next => exact out.elim
    | brk => exact out.elim
    | cont => exact out.elim
/-- x in o, x not in o: own __contains__, True or False -/
def rdInO (neg : Bool) (C : Addr) (sd : SpD) : RD2 := fun x o M q => ∃ fs, fsOf M C o = some fs ∧ sd [o, x] M (fun v M1 => ∃ b, v = .bl b ∧ q (.bl (if neg then !b else b)) M1) noX
theorem opd_inO {k : Nat} {C : Addr} {sd : SpD} (F : Mok X.prog X.w X.K X.mg X.base C "__contains__" k 2 sd) (hr : Room k X.A) : OpD X (compareOp .In) (rdInO false C sd) := by
  obtain ⟨c, f, fd, ps, hm, hfn, hb, F⟩ := F
  refine ⟨fun x y H Q => ∃ a dx fs, y = .ref a ∧ H a = some (.ins C dx fs) ∧ spOf X.K 2 sd [y, x] H (fun v H' => ∃ b, v = .bl b ∧ Q (.bl b) H') E0, fun pins s σ H x y v u Q I rx ry h => ?_, fun H0 H M x y dx dy q Q S hx hy w k => ?_⟩
  · obtain ⟨a, dx, fs, rfl, ea, h⟩ := h
    obtain rfl : u = Value.ref a := ry
    obtain ⟨mA, J, _⟩ := ins_get I.hok ea
    obtain ⟨od, J, _⟩ := J.look
    obtain ⟨m, hF⟩ := I.fr
    refine PySem.W.in_K hF I.ok.mod.kin J hm.at_ hm.fn (wpAny_mono (run_own F hr hb rfl I (.cons (show RelV (.ref a) (.ref a) from rfl) (.cons rx .nil)) h) (fun r s' ⟨v', H', I', rv, b, ev, q⟩ => ?_) fun _ _ z => z)
    subst ev
    cases rv
    exact wpAny_truthy_bool ⟨.bl b, H', I', rfl, q⟩
  · obtain ⟨fs, ef, w⟩ := w
    obtain ⟨a, dd, fvs, rfl, q1, r⟩ := S.obj hy ef
    exact ⟨a, dd, fvs, rfl, q1, [dy, dx], M, _, noX, H0, rfl, .cons hy (.cons hx .nil), S, w, fun v d H0' H' M' e S' rv ⟨b, ed, z⟩ => by subst ed; exact ⟨b, rv.inv_bl, k _ _ H0' H' M' e S' (.bl b) z⟩, kx0⟩
theorem opd_niO {k : Nat} {C : Addr} {sd : SpD} (F : Mok X.prog X.w X.K X.mg X.base C "__contains__" k 2 sd) (hr : Room k X.A) : OpD X (compareOp .NotIn) (rdInO true C sd) := by
  obtain ⟨c, f, fd, ps, hm, hfn, hb, F⟩ := F
  refine ⟨fun x y H Q => ∃ a dx fs, y = .ref a ∧ H a = some (.ins C dx fs) ∧ spOf X.K 2 sd [y, x] H (fun v H' => ∃ b, v = .bl b ∧ Q (.bl (!b)) H') E0, fun pins s σ H x y v u Q I rx ry h => ?_, fun H0 H M x y dx dy q Q S hx hy w k => ?_⟩
  · obtain ⟨a, dx, fs, rfl, ea, h⟩ := h
    obtain rfl : u = Value.ref a := ry
    obtain ⟨mA, J, _⟩ := ins_get I.hok ea
    obtain ⟨od, J, _⟩ := J.look
    obtain ⟨m, hF⟩ := I.fr
    refine PySem.W.notIn_K hF I.ok.mod.kin J hm.at_ hm.fn (wpAny_mono (run_own F hr hb rfl I (.cons (show RelV (.ref a) (.ref a) from rfl) (.cons rx .nil)) h) (fun r s' ⟨v', H', I', rv, b, ev, q⟩ => ?_) fun _ _ z => z)
    subst ev
    cases rv
    exact wpAny_truthy_bool ⟨.bl (!b), H', I', rfl, q⟩
  · obtain ⟨fs, ef, w⟩ := w
    obtain ⟨a, dd, fvs, rfl, q1, r⟩ := S.obj hy ef
    exact ⟨a, dd, fvs, rfl, q1, [dy, dx], M, _, noX, H0, rfl, .cons hy (.cons hx .nil), S, w, fun v d H0' H' M' e S' rv ⟨b, ed, z⟩ => by subst ed; exact ⟨b, rv.inv_bl, k _ _ H0' H' M' e S' (.bl (!b)) z⟩, kx0⟩
structure OwnI (K : PySem.W.Frag) (C : Addr) : Prop where
  cl : Cls K C
  ha : PySem.W.findIn K (.ref C) "__class__" = some (some (.builtin "object.__class__"))
  hn : PySem.W.specialIn K (.builtin "object.__class__") "__get__" = some (some (.builtin "getset_descriptor.__get__"))
  htk : PySem.W.takesIn K (.builtin "object.__class__") = some true
  hm : PySem.W.mroIn K C (.type "object") = some true
  no : ∀ t : String, t ∈ ["NoneType", "bool", "int", "str", "list", "tuple", "dict"] → PySem.W.kitOne K (.type t) (.ref C) = some false
theorem tyD_in {M : Mem} {d : D} {t : String} (h : tyD M d = some t) : t ∈ ["NoneType", "bool", "int", "str", "list", "tuple", "dict"] := by
  cases d with
  | cel c =>
    have e' : (match M c with | some (.ls _) => some "list" | some (.dc _) => some "dict" | _ => none) = some t := h
    split at e'
    · cases e'; decide
    · cases e'; decide
    · cases e'
  | ty n => cases h
  | ins C f v => cases h
  | _ => cases h; decide
@[reducible] def rdIsiC (C : Addr) : RD1 := fun d M q => ((∃ fs, fsOf M C d = some fs) ∧ q (.bl true) M) ∨ ((∃ t, tyD M d = some t) ∧ q (.bl false) M)
@[reducible] def dIsiC (C : Addr) (de : DE) : DE := fun env M q E => de env M (fun d M1 => rdIsiC C d M1 q) E
theorem pd_isiC {e : Expr} {y : Str} {C : Addr} {p p' pos : Pos} {de : DE} (he : PD X W e de) (o : OwnI X.K C) (hm : X.mg "isinstance" = none) (hmy : X.mg y = some (.ref C)) (hg : Gl X "isinstance" := by rfl) (hgy : Gl X y := by rfl) (hdy : (y == ("__debug__" : Str)) = false := by decide)
    (hs : starEach [e, .Name y p'] X.env = (false, eval e X.env) :: starEach [.Name y p'] X.env := by rfl) (hpl : (backTo pos (starEach [.Name y p'] X.env)).any (·.1) = false := by rfl) (hv2 : bootBuiltins "isinstance" = some (.builtin "isinstance") := by decide +kernel) : PD X W (.Call (.Name "isinstance" p) [e, .Name y p'] [] pos) (dIsiC C de) := by
  have h2 : AD X W [e, .Name y p'] (dCons de (dCons (dC (.cel C)) dNil)) := ad_cons he (ad_cons (pd_of_tC (pe_glob hgy hmy (show RelV (.ref C) (.ref C) from rfl) hdy) fun _ => .cel C) ad_nil (by rfl)) hs
  refine peImp (pe_callB (x := "isinstance") call_isi hg hm hv2 h2 (by decide) (by decide) hs hpl) fun σ H Q ⟨env, M, q, E, H0, so, S, h, k, kx⟩ => ?_
  refine ⟨env, M, fun ds M1 => (match ds with | [d, .cel m] => m = C ∧ rdIsiC C d M1 q | _ => False), E, H0, so, S, ?_, ?_, kx⟩
  · show de env M (fun d M1 => C = C ∧ rdIsiC C d M1 q) E
    rw [show (fun d M1 => C = C ∧ rdIsiC C d M1 q) = (fun d M1 => rdIsiC C d M1 q) from by funext d M1; exact propext ⟨fun h => h.2, fun h => ⟨rfl, h⟩⟩]
    exact h
  · intro vs ds H1 H' M1 e1 S1 rs w
    have w' : ∃ d, ds = [d, .cel C] ∧ rdIsiC C d M1 q := by
      revert w
      split
      · rintro ⟨rfl, w⟩; exact ⟨_, rfl, w⟩
      · exact fun z => z.elim
    clear w
    obtain ⟨d, ed, w⟩ := w'
    subst ed
    obtain ⟨v, u, rfl, rv, ru⟩ := dnl2 rs
    cases ru
    rcases w with ⟨⟨fs, ef⟩, w⟩ | ⟨⟨t, et⟩, w⟩
    · obtain ⟨a, dd, fvs, rfl, q1, r⟩ := S1.obj rv ef
      exact ⟨.ref a, .ref C, .ref C, .ref C, true, rfl, .own C, .base (.ins q1 o.cl o.ha o.hn o.htk o.hm), by unfold PySem.W.kitOne; rw [if_pos (by simp)], k _ _ H1 H' M1 e1 S1 (.bl true) w⟩
    · exact ⟨v, .ref C, .type t, .ref C, false, rfl, .own C, S1.tyX rv et, o.no t (tyD_in et), k _ _ H1 H' M1 e1 S1 (.bl false) w⟩
end
end DL
set_option maxRecDepth 100000
namespace R
open PySem PySem.Spec PyProof.Rows L2 DL
def letB (c : Nat) : Bool := decide (97 ≤ c ∧ c ≤ 122)
def signB (c : Nat) : Bool := decide (97 ≤ c ∧ c ≤ 122 ∨ 48 ≤ c ∧ c ≤ 57)
def nameL : List Nat → Bool
  | [] => false
  | c :: r => letB c && r.all signB && decide (r.length ≤ 7)
/-- a name: one to eight signs, a letter first -/
def nameB (x : Str) : Bool := nameL x.cps.toList
structure Host where
  name : Str
  rack : Str
  marks : List Int
  deriving DecidableEq
abbrev intsT (ms : List Int) : D := .tup (ms.map D.int)
abbrev strsT (xs : List Str) : D := .tup (xs.map D.str)
abbrev strsL (xs : List Str) : D := .lst (xs.map D.str)
abbrev hostD (h : Host) : D := .tup [.str h.name, .str h.rack, intsT h.marks]
abbrev crewD (hs : List Host) : D := .tup (hs.map hostD)
structure MarksOk (size : Int) (ms : List Int) : Prop where
  ne : 1 ≤ ms.length
  few : ms.length ≤ 16
  asc : ms.Pairwise (· < ·)
  inn : ∀ m ∈ ms, 0 ≤ m ∧ m < size
/-- a host that may stand behind the others -/
structure NextOk (size : Int) (hs : List Host) (h : Host) : Prop where
  name : nameB h.name = true
  rack : nameB h.rack = true
  fresh : ∀ o ∈ hs, o.name ≠ h.name
  marks : MarksOk size h.marks
  free : ∀ o ∈ hs, ∀ m ∈ h.marks, m ∉ o.marks
structure CrewOk (size : Int) (hs : List Host) : Prop where
  ne : hs ≠ []
  few : hs.length ≤ 12
  each : ∀ (i : Nat) h, hs[i]? = some h → NextOk size (hs.take i) h
structure Rule where
  wide : Int
  spread : Str
  write : Int
  read : Int
  pend : Str
  deriving DecidableEq
structure RuleOk (r : Rule) : Prop where
  w : 1 ≤ r.wide ∧ r.wide ≤ 5
  s : r.spread = "hosts" ∨ r.spread = "racks"
  p : 1 ≤ r.write ∧ r.write ≤ r.wide
  g : 1 ≤ r.read ∧ r.read ≤ r.wide
  m : r.pend = "plain" ∨ r.pend = "with"
def frameL (size : Int) (r : Rule) (hs : List Host) : List D := [.int size, .int r.wide, .str r.spread, .int r.write, .int r.read, .str r.pend, crewD hs]
def fNames : List Str := ["_points", "_factor", "_spread", "_write", "_read_number", "_pending", "_hosts"]
def fieldsD (size : Int) (r : Rule) (hs : List Host) : List (Str × D) := [("_points", .int size), ("_factor", .int r.wide), ("_spread", .str r.spread), ("_write", .int r.write), ("_read_number", .int r.read), ("_pending", .str r.pend), ("_hosts", crewD hs)]
def ringD (C : Addr) (size : Int) (r : Rule) (hs : List Host) : D := .ins C fNames (frameL size r hs)
/-- the way from a point to the next of these marks -/
def IsWay (size p : Int) (ms : List Int) (m : Int) : Prop := m ∈ ms.map (fun k => (k - p) % size) ∧ ∀ y ∈ ms.map (fun k => (k - p) % size), m ≤ y
/-- the names by their ways -/
def WalkOf (size p : Int) (hs : List Host) (ns : List Str) : Prop := ∃ ws : List (Int × Str), ws.Pairwise (fun a b => a.1 ≤ b.1) ∧ ns = ws.map (·.2) ∧ (ws.map (·.2)).Perm (hs.map (·.name)) ∧ ∀ a ∈ ws, ∃ h ∈ hs, h.name = a.2 ∧ IsWay size p h.marks a.1
def rackOf (hs : List Host) (x : Str) : Str := ((hs.find? fun h => decide (h.name = x)).map (·.rack)).getD x
/-- firsts, others: by racks seen -/
def splitR (hs : List Host) : List Str → List Str → List Str → List Str → List Str × List Str
  | _, fs, os, [] => (fs, os)
  | seen, fs, os, x :: r => if rackOf hs x ∈ seen then splitR hs seen fs (os ++ [x]) r else splitR hs (seen ++ [rackOf hs x]) (fs ++ [x]) os r
def newRacks (hs : List Host) (ns : List Str) : List Str := (splitR hs [] [] [] ns).1 ++ (splitR hs [] [] [] ns).2
def keepersOf (r : Rule) (hs : List Host) (ns : List Str) : List Str := (if r.spread = "racks" then newRacks hs ns else ns).take r.wide.toNat
/-- the generator's state -/
def Kg (M : Mem) (k : Addr) (g : Int) : Prop := ∃ a b c : Int, M k = some (.ls [.int a, .int b, .int c]) ∧ 0 ≤ b ∧ b < 2147483648 ∧ 0 ≤ c ∧ c ≤ g
def sd_is_whole (C : Addr) : SpD := fun ds M q _ => ∃ i : Int, ds = [.int i] ∧ q (.bl true) M
def sd_is_from_to (C : Addr) : SpD := fun ds M q _ => ∃ v lo hi : Int, ds = [.int v, .int lo, .int hi] ∧ q (.bl (decide (lo ≤ v ∧ v ≤ hi))) M
def sd_is_word_of (C : Addr) : SpD := fun ds M q _ => (∃ (x : Str) (ws : List Str), ds = [.str x, strsT ws] ∧ q (.bl (decide (x ∈ ws))) M) ∨ ∃ (d : D) (ws : List Str) (t : String), ds = [d, strsT ws] ∧ tyD M d = some t ∧ t ≠ "str" ∧ q (.bl false) M
def sd_is_name (C : Addr) : SpD := fun ds M q _ => ∃ x : Str, ds = [.str x] ∧ nameB x = true ∧ q (.bl true) M
def sd_is_ascending (C : Addr) : SpD := fun ds M q _ => ∃ ms : List Int, ds = [intsT ms] ∧ ms.length ≤ 16 ∧ ms.Pairwise (· < ·) ∧ q (.bl true) M
def sd_are_free_marks (C : Addr) : SpD := fun ds M q _ => ∃ (ms : List Int) (size : Int) (hs : List Host), ds = [intsT ms, .int size, crewD hs] ∧ MarksOk size ms ∧ hs.length ≤ 12 ∧ (∀ o ∈ hs, ∀ m ∈ ms, m ∉ o.marks) ∧ q (.bl true) M
def sd_is_free_name (C : Addr) : SpD := fun ds M q _ => ∃ (x : Str) (hs : List Host), ds = [.str x, crewD hs] ∧ nameB x = true ∧ hs.length ≤ 12 ∧ (∀ o ∈ hs, nameB o.name = true ∧ o.name ≠ x) ∧ q (.bl true) M
def sd_is_next_host (C : Addr) : SpD := fun ds M q _ => ∃ (h : Host) (size : Int) (hs : List Host), ds = [hostD h, .int size, crewD hs] ∧ NextOk size hs h ∧ hs.length ≤ 12 ∧ (∀ o ∈ hs, nameB o.name = true) ∧ q (.bl true) M
def sd_check_hosts (C : Addr) : SpD := fun ds M q _ => ∃ (size : Int) (hs : List Host), ds = [.int size, crewD hs] ∧ CrewOk size hs ∧ q .non M
def sd_Ring___init__ (C : Addr) : SpD := fun ds M q _ => ∃ (c : Addr) (size : Int) (r : Rule) (hs : List Host), ds = .cel c :: frameL size r hs ∧ M c = some (.ob C []) ∧ 1 ≤ size ∧ size ≤ 1000000000000000000 ∧ RuleOk r ∧ CrewOk size hs ∧ q .non (mset M c (.ob C (fieldsD size r hs)))
def sd_Ring___getitem__ (C : Addr) : SpD := fun ds M q _ => ∃ (size : Int) (r : Rule) (hs : List Host) (x : Str), ds = [ringD C size r hs, .str x] ∧ CrewOk size hs ∧ x ∈ hs.map (·.name) ∧ ∀ ms : List Int, q (.tup [.str (rackOf hs x), intsT ms]) M
def sd_Ring__way (C : Addr) : SpD := fun ds M q _ => ∃ (size : Int) (r : Rule) (hs : List Host) (p : Int) (ms : List Int), ds = [ringD C size r hs, .int p, intsT ms] ∧ 0 < size ∧ 1 ≤ ms.length ∧ ms.length ≤ 16 ∧ ∀ m, IsWay size p ms m → q (.int m) M
def sd_Ring_walk (C : Addr) : SpD := fun ds M q _ => ∃ (size : Int) (r : Rule) (hs : List Host) (p : Int), ds = [ringD C size r hs, .int p] ∧ CrewOk size hs ∧ 0 ≤ p ∧ p < size ∧ ∀ ns, WalkOf size p hs ns → q (strsT ns) M
def sd_new_racks_first (C : Addr) : SpD := fun ds M q _ => ∃ (size : Int) (r : Rule) (hs : List Host) (ns : List Str), ds = [ringD C size r hs, strsT ns] ∧ CrewOk size hs ∧ ns.length ≤ 12 ∧ (∀ x ∈ ns, x ∈ hs.map (·.name)) ∧ ∀ M', Kept M M' → q (strsT (newRacks hs ns)) M'
/-- the names of a rack that none ahead is of, among the first n -/
def firstsN (hs : List Host) (ns : List Str) : Nat → List Str
  | 0 => []
  | n + 1 => match ns[n]? with
    | some x => if rackOf hs x ∈ (ns.take n).map (rackOf hs) then firstsN hs ns n else firstsN hs ns n ++ [x]
    | none => firstsN hs ns n
def keepL (r : Rule) (hs : List Host) (ns : List Str) : List Str := if r.spread = "hosts" then ns.take r.wide.toNat else
  ((firstsN hs ns ns.length).take r.wide.toNat ++ ns.filter fun x => !decide (x ∈ (firstsN hs ns ns.length).take r.wide.toNat)).take r.wide.toNat
def sd_Ring_points (C : Addr) : SpD := fun ds M q _ => ∃ (size : Int) (r : Rule) (hs : List Host), ds = [ringD C size r hs] ∧ q (.int size) M
def sd_Ring_factor (C : Addr) : SpD := fun ds M q _ => ∃ (size : Int) (r : Rule) (hs : List Host), ds = [ringD C size r hs] ∧ q (.int r.wide) M
def sd_Ring_spread (C : Addr) : SpD := fun ds M q _ => ∃ (size : Int) (r : Rule) (hs : List Host), ds = [ringD C size r hs] ∧ q (.str r.spread) M
def sd_Ring_hosts (C : Addr) : SpD := fun ds M q _ => ∃ (size : Int) (r : Rule) (hs : List Host), ds = [ringD C size r hs] ∧ q (crewD hs) M
def sd_check_point (C : Addr) : SpD := fun ds M q _ => ∃ (size : Int) (r : Rule) (hs : List Host) (p : Int), ds = [ringD C size r hs, .int p] ∧ 0 ≤ p ∧ p < size ∧ q .non M
def sd_keepers_in (C : Addr) : SpD := fun ds M q _ => ∃ (size : Int) (r : Rule) (hs : List Host) (ns : List Str), ds = [ringD C size r hs, strsT ns] ∧ CrewOk size hs ∧ RuleOk r ∧ ns.length ≤ 12 ∧ (∀ x ∈ ns, x ∈ hs.map (·.name)) ∧ ∀ M', Kept M M' → q (strsT (keepersOf r hs ns)) M'
def numS (i : Int) : Str := Str.ofString (toString i)
/-- a host as it stands in a text -/
structure HostT (size : Int) (h : Host) : Prop where
  name : nameB h.name = true
  rack : nameB h.rack = true
  marks : MarksOk size h.marks
def sd_Ring_names (C : Addr) : SpD := fun ds M q _ => ∃ (size : Int) (r : Rule) (hs : List Host), ds = [ringD C size r hs] ∧ hs.length ≤ 12 ∧ ∀ ys : List Str, ys.Perm (hs.map (·.name)) → PyProof.Rows.sortedS ys = true → q (strsT ys) M
def sd_Ring___contains__ (C : Addr) : SpD := fun ds M q _ => ∃ (size : Int) (r : Rule) (hs : List Host) (d : D), ds = [ringD C size r hs, d] ∧ hs.length ≤ 12 ∧ ((∃ x : Str, d = .str x ∧ q (.bl (decide (x ∈ hs.map (·.name)))) M) ∨ ∃ t, tyD M d = some t ∧ t ≠ "str" ∧ q (.bl false) M)
def sd_check_name (C : Addr) : SpD := fun ds M q _ => ∃ (size : Int) (r : Rule) (hs : List Host) (x : Str), ds = [ringD C size r hs, .str x] ∧ hs.length ≤ 12 ∧ x ∈ hs.map (·.name) ∧ q .non M
end R
set_option maxRecDepth 100000
namespace R
open PySem PySem.Spec PyProof.Rows L2 DL
abbrev N_is_ascending : List Str := ["row", "one", "other"]
def db_is_ascending (C : Addr) : DS :=
    (dRet (dCB rdAll (dCons (dLc (dZip (dCons (dVar 0) (dCons (dSl rdSl (dVar 0) (dPart (dC (.int 1))) dNo) dNil))) (gdTup 2 (gdCons (gdName 1) (gdCons (gdName 2) gdNil))) dYes (dOp rdLt (dVar 1) (dVar 2)) [1, 2]) dNil)))
abbrev N_is_whole : List Str := ["value"]
def db_is_whole (C : Addr) : DS :=
    (dRet (dAndV (dIsi "int" (dVar 0)) (dNotV (dIsi "bool" (dVar 0)))))
abbrev N_is_name : List Str := ["value", "sign"]
def db_is_name (C : Addr) : DS :=
    (dSeq (dIfS (dOr (dNot (dTru (dIsi "str" (dVar 0)))) (dNot (dTst (dChn rdLe rdLe (dC (.int 1)) (dCB rdLen (dCons (dVar 0) dNil)) (dC (.int 8)))))) (dRet (dC (.bl false))) dNext)
    (dRet (dAndV (dOp (rdIn false) (dOp rdIx (dVar 0) (dC (.int 0))) (dC (.str "abcdefghijklmnopqrstuvwxyz"))) (dCB rdAll (dCons (dLc (dIterS (dVar 0)) (gdName 1) dYes (dOp (rdIn false) (dVar 1) (dOp rdAdd (dC (.str "abcdefghijklmnopqrstuvwxyz")) (dC (.str "0123456789")))) [1]) dNil)))))
abbrev N_is_word_of : List Str := ["value", "words"]
def db_is_word_of (C : Addr) : DS :=
    (dRet (dAndV (dIsi "str" (dVar 0)) (dOp (rdIn false) (dVar 0) (dVar 1))))
abbrev N_Ring_hosts : List Str := ["self"]
def db_Ring_hosts (C : Addr) : DS :=
    (dRet (dFld C "_hosts" (dVar 0)))
abbrev N_Ring_factor : List Str := ["self"]
def db_Ring_factor (C : Addr) : DS :=
    (dRet (dFld C "_factor" (dVar 0)))
abbrev N_Ring_spread : List Str := ["self"]
def db_Ring_spread (C : Addr) : DS :=
    (dRet (dFld C "_spread" (dVar 0)))
abbrev N_Ring_points : List Str := ["self"]
def db_Ring_points (C : Addr) : DS :=
    (dRet (dFld C "_points" (dVar 0)))
abbrev N_Ring__way : List Str := ["self", "point", "marks", "mark"]
def db_Ring__way (C : Addr) : DS :=
    (dRet (dCB rdMinL (dCons (dLc (dIter (dVar 2)) (gdName 3) dYes (dOp rdMod (dOp rdSub (dVar 3) (dVar 1)) (dFld C "_points" (dVar 0))) [3]) dNil)))
abbrev N_is_from_to : List Str := ["value", "least", "most"]
def db_is_from_to (C : Addr) : DS :=
    (dRet (dAndV (dCall 1 (sd_is_whole C) (dCons (dVar 0) dNil)) (dChn rdLe rdLe (dVar 1) (dVar 0) (dVar 2))))
abbrev N_is_free_name : List Str := ["value", "hosts", "host"]
def db_is_free_name (C : Addr) : DS :=
    (dRet (dAndV (dCall 1 (sd_is_name C) (dCons (dVar 0) dNil)) (dNotV (dCB rdAny (dCons (dLc (dIter (dVar 1)) (gdName 2) dYes (dOp rdEq (dVar 0) (dOp rdIx (dVar 2) (dC (.int 0)))) [2]) dNil)))))
abbrev N_are_free_marks : List Str := ["value", "points", "hosts", "mark", "host"]
def db_are_free_marks (C : Addr) : DS :=
    (dSeq (dIfS (dOr (dNot (dTru (dIsi "tuple" (dVar 0)))) (dNot (dTst (dChn rdLe rdLe (dC (.int 1)) (dCB rdLen (dCons (dVar 0) dNil)) (dC (.int 16)))))) (dRet (dC (.bl false))) dNext)
    (dSeq (dIfS (dOr (dNot (dTru (dCB rdAll (dCons (dLc (dIter (dVar 0)) (gdName 3) dYes (dCall 3 (sd_is_from_to C) (dCons (dVar 3) (dCons (dC (.int 0)) (dCons (dOp rdSub (dVar 1) (dC (.int 1))) dNil)))) [3]) dNil)))) (dNot (dTru (dCall 1 (sd_is_ascending C) (dCons (dVar 0) dNil))))) (dRet (dC (.bl false))) dNext)
    (dRet (dNotV (dCB rdAny (dCons (dLc2 (dIter (dVar 2)) (gdName 4) dYes (dIter (dVar 0)) (gdName 3) dYes (dOp (rdIn false) (dVar 3) (dOp rdIx (dVar 4) (dC (.int 2)))) [4, 3] [3]) dNil))))))
abbrev N_new_racks_first : List Str := ["ring", "walk", "rack_of", "racks", "firsts", "others", "name", "rack", "_"]
def db_new_racks_first (C : Addr) : DS :=
    (dSeq (dSet 2 (dDc (dIter (dProp C (sd_Ring_hosts C) (dVar 0))) (gdTup 3 (gdCons (gdName 6) (gdCons (gdName 7) (gdCons (gdName 8) gdNil)))) dYes (dVar 6) (dVar 7) [6, 7, 8]))
    (dSeq (dSet 3 (dLstC dNil))
    (dSeq (dSet 4 (dLstC dNil))
    (dSeq (dSet 5 (dLstC dNil))
    (dSeq (dFor (dIter (dVar 1)) (gdName 6) (dSeq (dSet 7 (dDGet (dVar 2) (dVar 6)))
    (dIfS (dTst (dOp (rdIn false) (dVar 7) (dVar 3))) (dExp (dApp (dVar 5) (dCons (dVar 6) dNil))) (dSeq (dExp (dApp (dVar 3) (dCons (dVar 7) dNil)))
    (dExp (dApp (dVar 4) (dCons (dVar 6) dNil)))))))
    (dRet (dCB rdTuple (dCons (dOp rdAdd (dVar 4) (dVar 5)) dNil))))))))
abbrev N_check_point : List Str := ["ring", "point"]
def db_check_point (C : Addr) : DS :=
    (dIfS (dNot (dTru (dCall 3 (sd_is_from_to C) (dCons (dVar 1) (dCons (dC (.int 0)) (dCons (dOp rdSub (dProp C (sd_Ring_points C) (dVar 0)) (dC (.int 1))) dNil)))))) dNever dNext)
abbrev N_is_next_host : List Str := ["value", "points", "hosts", "name", "rack", "marks"]
def db_is_next_host (C : Addr) : DS :=
    (dSeq (dIfS (dOr (dNot (dTru (dIsi "tuple" (dVar 0)))) (dTst (dOp rdNe (dCB rdLen (dCons (dVar 0) dNil)) (dC (.int 3))))) (dRet (dC (.bl false))) dNext)
    (dSeq (dAsg (dVar 0) (gdTup 3 (gdCons (gdName 3) (gdCons (gdName 4) (gdCons (gdName 5) gdNil)))))
    (dRet (dAndV (dCall 2 (sd_is_free_name C) (dCons (dVar 3) (dCons (dVar 2) dNil))) (dAndV (dCall 1 (sd_is_name C) (dCons (dVar 4) dNil)) (dCall 3 (sd_are_free_marks C) (dCons (dVar 5) (dCons (dVar 1) (dCons (dVar 2) dNil)))))))))
abbrev N_keepers_in : List Str := ["ring", "walk", "names"]
def db_keepers_in (C : Addr) : DS :=
    (dSeq (dSet 2 (dIf (dTst (dOp rdEq (dProp C (sd_Ring_spread C) (dVar 0)) (dC (.str "racks")))) (dCall 2 (sd_new_racks_first C) (dCons (dVar 0) (dCons (dVar 1) dNil))) (dVar 1)))
    (dRet (dSl rdSl (dVar 2) dNo (dPart (dProp C (sd_Ring_factor C) (dVar 0))))))
abbrev N_Ring_walk : List Str := ["self", "point", "met", "host", "_", "name"]
def db_Ring_walk (C : Addr) : DS :=
    (dSeq (dExp (dCall 2 (sd_check_point C) (dCons (dVar 0) (dCons (dVar 1) dNil))))
    (dSeq (dSet 2 (dCB rdSortP (dCons (dLc (dIter (dFld C "_hosts" (dVar 0))) (gdName 3) dYes (dTup (dCons (dMeth C "_way" 3 (sd_Ring__way C) (dVar 0) (dCons (dVar 1) (dCons (dOp rdIx (dVar 3) (dC (.int 2))) dNil))) (dCons (dOp rdIx (dVar 3) (dC (.int 0))) dNil))) [3]) dNil)))
    (dRet (dCB rdTuple (dCons (dLc (dIter (dVar 2)) (gdTup 2 (gdCons (gdName 4) (gdCons (gdName 5) gdNil))) dYes (dVar 5) [4, 5]) dNil)))))
abbrev N_check_hosts : List Str := ["points", "hosts", "index", "host"]
def db_check_hosts (C : Addr) : DS :=
    (dSeq (dIfS (dOr (dNot (dTru (dIsi "tuple" (dVar 1)))) (dTst (dOp rdEq (dCB rdLen (dCons (dVar 1) dNil)) (dC (.int 0))))) dNever dNext)
    (dFor (dEnum (dCons (dVar 1) dNil)) (gdTup 2 (gdCons (gdName 2) (gdCons (gdName 3) gdNil))) (dIfS (dOr (dTst (dOp rdEq (dVar 2) (dC (.int 12)))) (dNot (dTru (dCall 3 (sd_is_next_host C) (dCons (dVar 3) (dCons (dVar 0) (dCons (dSl rdSl (dVar 1) dNo (dPart (dVar 2))) dNil))))))) dNever dNext)))
abbrev N_Ring___init__ : List Str := ["self", "points", "factor", "spread", "write", "read", "pending", "hosts"]
def db_Ring___init__ (C : Addr) : DS :=
    (dSeq (dIfS (dNot (dTru (dCall 3 (sd_is_from_to C) (dCons (dVar 1) (dCons (dC (.int 1)) (dCons (dC (.int 1000000000000000000)) dNil)))))) dNever dNext)
    (dSeq (dIfS (dNot (dTru (dCall 3 (sd_is_from_to C) (dCons (dVar 2) (dCons (dC (.int 1)) (dCons (dC (.int 5)) dNil)))))) dNever dNext)
    (dSeq (dIfS (dNot (dTru (dCall 2 (sd_is_word_of C) (dCons (dVar 3) (dCons (dC (.tup [.str "hosts", .str "racks"])) dNil))))) dNever dNext)
    (dSeq (dIfS (dNot (dTru (dCall 3 (sd_is_from_to C) (dCons (dVar 4) (dCons (dC (.int 1)) (dCons (dVar 2) dNil)))))) dNever dNext)
    (dSeq (dIfS (dNot (dTru (dCall 3 (sd_is_from_to C) (dCons (dVar 5) (dCons (dC (.int 1)) (dCons (dVar 2) dNil)))))) dNever dNext)
    (dSeq (dIfS (dNot (dTru (dCall 2 (sd_is_word_of C) (dCons (dVar 6) (dCons (dC (.tup [.str "plain", .str "with"])) dNil))))) dNever dNext)
    (dSeq (dExp (dCall 2 (sd_check_hosts C) (dCons (dVar 1) (dCons (dVar 7) dNil))))
    (dSeq (dFSet C "_points" (dVar 0) (dVar 1))
    (dSeq (dFSet C "_factor" (dVar 0) (dVar 2))
    (dSeq (dFSet C "_spread" (dVar 0) (dVar 3))
    (dSeq (dFSet C "_write" (dVar 0) (dVar 4))
    (dSeq (dFSet C "_read_number" (dVar 0) (dVar 5))
    (dSeq (dFSet C "_pending" (dVar 0) (dVar 6))
    (dFSet C "_hosts" (dVar 0) (dVar 7)))))))))))))))
end R
set_option maxRecDepth 100000
namespace R
open PySem PySem.Spec PyProof.Rows L2 DL
end R
set_option maxRecDepth 100000
set_option maxHeartbeats 1000000
namespace R
open PySem PySem.Spec PyProof.Rows L2 DL
local macro_rules | `(tactic| bv_omega) => `(tactic| first | assumption | exact mset_same)
local macro_rules | `(tactic| symm) => `(tactic| first
  | ((with_reducible show ∃ _, _ = _ ∧ _); refine ⟨_, rfl, ?_⟩)
  | ((with_reducible show _ = _ ∧ _); refine ⟨rfl, ?_⟩)
  | ((with_reducible show ∃ _ _, _ = _ ∧ _ = _ ∧ _); refine ⟨_, _, rfl, rfl, ?_⟩)
  | ((with_reducible show ∃ _ _, _ = _ ∧ _); refine ⟨_, _, rfl, ?_⟩)
  | ((with_reducible show ∃ _ _ _, _ = _ ∧ _); refine ⟨_, _, _, rfl, ?_⟩)
  | ((with_reducible show (_ ≤ _ ∧ _) ∧ _); refine ⟨by omega, ?_⟩)
  | with_reducible refine add_int ?_ | with_reducible refine sub_int ?_
  | with_reducible refine lt_int ?_ | with_reducible refine le_int ?_ | with_reducible refine gt_int ?_ | with_reducible refine ge_int ?_
  | with_reducible refine int_int ?_
  | with_reducible refine eq_int ?_ | with_reducible refine ne_int ?_
  | with_reducible refine len_tup ?_ | with_reducible refine len_lst ?_
  | ((with_reducible show rdIx (.cel _) (.int _) _ _); refine ix_cel (by bv_omega) (by rfl) ?_)
  | ((with_reducible show rdIx (.lst _) (.int _) _ _); refine ix_lst (by rfl) ?_)
  | ((with_reducible show rdIx (.tup _) (.int _) _ _); refine ix_tup (by rfl) ?_)
  | ((with_reducible show rdLen [.cel _] _ _); refine len_cel (by bv_omega) ?_)
  | ((with_reducible show rdMul (.int _) (.int _) _ _); first | refine mul_l (by decide) (by decide) ?_ | refine mul_r (by decide) (by decide) ?_ | refine mul_l (by omega) (by omega) ?_ | refine mul_r (by omega) (by omega) ?_)
  | ((with_reducible show rdDiv (.int _) (.int _) _ _); refine div_int (by first | decide | assumption | omega) (by first | decide | assumption | omega) ?_)
  | ((with_reducible show rdDivmod [.int _, .int _] _ _); refine dm_int (by first | decide | assumption | omega) (by first | decide | assumption | omega) ?_)
  | ((with_reducible show @ite _ (_ = true) _ _ _); first | refine ifYes (by first | with_reducible rfl | exact Bool.not_false | assumption) ?_ | refine ifNo (by first | with_reducible rfl | exact Bool.not_true | assumption) ?_)
  | ((with_reducible show ∃ _, _ ∧ _); refine ⟨_, celL_of (by bv_omega), ?_⟩)
  | ((with_reducible show ∃ _ _ _ _, _ ∧ _ ∧ _ ∧ _ ∧ _); refine ⟨_, _, _, _, rfl, rfl, by bv_omega, by rfl, ?_⟩)
  | ((with_reducible show (_ : Nat) ≤ sizeLine ∧ _); refine ⟨by rw [sizeLine_eq]; exact Nat.le_of_ble_eq_true rfl, ?_⟩))
local macro_rules | `(tactic| infer_instance) => `(tactic| ((repeat symm); try dsimp only))
local macro_rules | `(tactic| ac_rfl) => `(tactic| ((repeat (first | symm | ((with_reducible show rdMod (.int _) (.int _) _ _); refine mod_any (by first | decide | assumption | omega) ?_; intro _ _ _))); try dsimp only))
theorem kp_is_whole (C : Addr) : Keeps N_is_whole 1 (sd_is_whole C) (db_is_whole C) := by
  rintro ds M q ex hl ⟨i, rfl, h⟩
  show db_is_whole C _ [some (.int i)] M
  unfold db_is_whole
  ac_rfl
  exact h
theorem kp_is_from_to (C : Addr) : Keeps N_is_from_to 3 (sd_is_from_to C) (db_is_from_to C) := by
  rintro ds M q ex hl ⟨v, lo, hi, rfl, h⟩
  show db_is_from_to C _ [some (.int v), some (.int lo), some (.int hi)] M
  unfold db_is_from_to
  ac_rfl
  refine ⟨v, rfl, ?_⟩
  ac_rfl
  refine ifD (fun h1 => ?_) (fun h1 => ?_)
  · ac_rfl
    have e : decide (v ≤ hi) = decide (lo ≤ v ∧ v ≤ hi) := by simp [h1]
    rw [e]; exact h
  · have e : false = decide (lo ≤ v ∧ v ≤ hi) := by simp [h1]
    rw [e]; exact h
theorem strOk_nat {x : Str} (h : x.cps.toList.all (fun c => decide (c < 1114112)) = true) : PyData.strOk x = true := by
  unfold PyData.strOk
  rw [← Array.all_toList]
  exact h
theorem name_ok {x : Str} (h : nameB x = true) : PyData.strOk x = true := by
  refine strOk_nat ?_
  unfold nameB at h
  cases e : x.cps.toList with
  | nil => rfl
  | cons c r =>
    rw [e] at h
    have h' : (letB c && r.all signB && decide (r.length ≤ 7)) = true := h
    rw [Bool.and_eq_true, Bool.and_eq_true] at h'
    obtain ⟨⟨h1, h2⟩, _⟩ := h'
    rw [List.all_eq_true] at h2 ⊢
    intro d hd
    rcases List.mem_cons.mp hd with rfl | hd
    · have := of_decide_eq_true h1
      exact decide_eq_true (by omega)
    · have := of_decide_eq_true (h2 d hd)
      exact decide_eq_true (by omega)
theorem name_len {x : Str} (h : nameB x = true) : 1 ≤ x.length ∧ x.length ≤ 8 := by
  unfold nameB at h
  rw [str_len]
  cases e : x.cps.toList with
  | nil => rw [e] at h; cases h
  | cons c r =>
    rw [e] at h
    have h' : (letB c && r.all signB && decide (r.length ≤ 7)) = true := h
    rw [Bool.and_eq_true] at h'
    have := of_decide_eq_true h'.2
    rw [List.length_cons]
    omega
theorem kg_le {M : Mem} {k : Addr} {g g' : Int} (h : Kg M k g) (e : g ≤ g') : Kg M k g' := by
  obtain ⟨a, b, c, h3, h4, h5, h6, h7⟩ := h
  exact ⟨a, b, c, h3, h4, h5, h6, by omega⟩
theorem kg_kept {M M' : Mem} {k : Addr} {g : Int} (h : Kg M k g) (e : Kept M M') : Kg M' k g := by
  obtain ⟨a, b, c, h3, h⟩ := h
  exact ⟨a, b, c, e k _ h3, h⟩
theorem kg_ne {M : Mem} {k c : Addr} {g : Int} (h : Kg M k g) (e : M c = none) : c ≠ k := by
  obtain ⟨a, b, c', h3, _⟩ := h
  rintro rfl
  rw [e] at h3; cases h3
theorem kp_is_word_of (C : Addr) : Keeps N_is_word_of 2 (sd_is_word_of C) (db_is_word_of C) := by
  rintro ds M q ex hl (⟨x, ws, rfl, h⟩ | ⟨d, ws, t, rfl, ht, hn, h⟩)
  · show db_is_word_of C _ [some (.str x), some (strsT ws)] M
    unfold db_is_word_of
    ac_rfl
    exact in_str (xs := ws) rfl h
  · show db_is_word_of C _ [some d, some (strsT ws)] M
    unfold db_is_word_of
    refine ⟨d, rfl, t, false, ht, ?_, ?_⟩
    · have := tyD_in ht
      simp only [List.mem_cons, List.not_mem_nil, or_false] at this
      rcases this with rfl | rfl | rfl | rfl | rfl | rfl | rfl <;> first | rfl | exact absurd rfl hn
    · refine ⟨false, rfl, ?_⟩
      rw [if_neg Bool.false_ne_true]
      exact h
theorem let_in {c : Nat} (h : letB c = true) : c ∈ ("abcdefghijklmnopqrstuvwxyz" : Str).cps.toList := by
  have e : ("abcdefghijklmnopqrstuvwxyz" : Str).cps.toList = (List.range 26).map (97 + ·) := by decide +kernel
  rw [e]
  have := of_decide_eq_true h
  exact List.mem_map.mpr ⟨c - 97, List.mem_range.mpr (by omega), by omega⟩
theorem sign_in {c : Nat} (h : signB c = true) : c ∈ (("abcdefghijklmnopqrstuvwxyz" : Str) ++ ("0123456789" : Str)).cps.toList := by
  have e : (("abcdefghijklmnopqrstuvwxyz" : Str) ++ ("0123456789" : Str)).cps.toList = (List.range 26).map (97 + ·) ++ (List.range 10).map (48 + ·) := by decide +kernel
  rw [e]
  rcases of_decide_eq_true h with h | h
  · exact List.mem_append.mpr (.inl (List.mem_map.mpr ⟨c - 97, List.mem_range.mpr (by omega), by omega⟩))
  · exact List.mem_append.mpr (.inr (List.mem_map.mpr ⟨c - 48, List.mem_range.mpr (by omega), by omega⟩))
theorem kp_is_name (C : Addr) : Keeps N_is_name 1 (sd_is_name C) (db_is_name C) := by
  rintro ds M q ex hl ⟨x, rfl, hx, h⟩
  show db_is_name C _ [some (.str x), none] M
  unfold db_is_name
  have hlen := name_len hx
  have hsz : x.length ≤ sizeLine := by rw [sizeLine_eq]; omega
  ac_rfl
  refine len_str hsz ?_
  ac_rfl
  refine ifD (fun h1 => ?_) (fun h1 => absurd hlen.1 (by omega))
  ac_rfl
  have e8 : decide ((x.length : Int) ≤ 8) = true := decide_eq_true (by omega)
  rw [e8]
  ac_rfl
  unfold nameB at hx
  cases e : x.cps.toList with
  | nil => rw [e] at hx; cases hx
  | cons c r =>
    rw [e] at hx
    have h' : (letB c && r.all signB && decide (r.length ≤ 7)) = true := hx
    rw [Bool.and_eq_true, Bool.and_eq_true] at h'
    obtain ⟨⟨h1, h2⟩, h3⟩ := h'
    refine ix_str hsz (by rw [e]; exact atI_zero) ?_
    ac_rfl
    refine in_sign ?_
    refine ⟨true, by rw [decide_eq_true (let_in h1)], ?_⟩
    ac_rfl
    intro c0 hc0
    have hxl : (strD x).length ≤ sizeLine := by unfold strD; rw [List.length_map, ← str_len]; exact hsz
    refine lc_pure (fun _ => true) (fun _ => .bl true) hc0 hxl (fun _ => trivial) (fun y hy acc hz nx hyes _ => ?_) ?_
    · obtain ⟨d, hd, rfl⟩ := List.mem_map.mp hy
      have hsd : signB d = true := by
        rw [e] at hd
        rcases List.mem_cons.mp hd with rfl | hd
        · have := of_decide_eq_true h1
          exact decide_eq_true (.inl this)
        · exact List.all_eq_true.mp h2 d hd
      ac_rfl
      refine add_str (by rw [sizeLine_eq]; decide) ?_
      refine in_sign ?_
      rw [decide_eq_true (sign_in hsd)]
      exact acc_put hz (hyes rfl)
    · refine all_true (fun y hy => ?_) h
      obtain ⟨_, _, e⟩ := List.mem_map.mp hy
      exact e.symm
end R
set_option maxRecDepth 100000
set_option maxHeartbeats 1000000
namespace R
open PySem PySem.Spec PyProof.Rows L2 DL
local macro_rules | `(tactic| bv_omega) => `(tactic| first | assumption | exact mset_same)
local macro_rules | `(tactic| symm) => `(tactic| first
  | ((with_reducible show ∃ _, _ = _ ∧ _); refine ⟨_, rfl, ?_⟩)
  | ((with_reducible show _ = _ ∧ _); refine ⟨rfl, ?_⟩)
  | ((with_reducible show ∃ _ _, _ = _ ∧ _ = _ ∧ _); refine ⟨_, _, rfl, rfl, ?_⟩)
  | ((with_reducible show ∃ _ _, _ = _ ∧ _); refine ⟨_, _, rfl, ?_⟩)
  | ((with_reducible show ∃ _ _ _, _ = _ ∧ _); refine ⟨_, _, _, rfl, ?_⟩)
  | ((with_reducible show (_ ≤ _ ∧ _) ∧ _); refine ⟨by omega, ?_⟩)
  | with_reducible refine add_int ?_ | with_reducible refine sub_int ?_
  | with_reducible refine lt_int ?_ | with_reducible refine le_int ?_ | with_reducible refine gt_int ?_ | with_reducible refine ge_int ?_
  | with_reducible refine int_int ?_
  | with_reducible refine eq_int ?_ | with_reducible refine ne_int ?_
  | with_reducible refine len_tup ?_ | with_reducible refine len_lst ?_
  | ((with_reducible show rdIx (.cel _) (.int _) _ _); refine ix_cel (by bv_omega) (by rfl) ?_)
  | ((with_reducible show rdIx (.lst _) (.int _) _ _); refine ix_lst (by rfl) ?_)
  | ((with_reducible show rdIx (.tup _) (.int _) _ _); refine ix_tup (by rfl) ?_)
  | ((with_reducible show rdLen [.cel _] _ _); refine len_cel (by bv_omega) ?_)
  | ((with_reducible show rdMul (.int _) (.int _) _ _); first | refine mul_l (by decide) (by decide) ?_ | refine mul_r (by decide) (by decide) ?_ | refine mul_l (by omega) (by omega) ?_ | refine mul_r (by omega) (by omega) ?_)
  | ((with_reducible show rdDiv (.int _) (.int _) _ _); refine div_int (by first | decide | assumption | omega) (by first | decide | assumption | omega) ?_)
  | ((with_reducible show rdDivmod [.int _, .int _] _ _); refine dm_int (by first | decide | assumption | omega) (by first | decide | assumption | omega) ?_)
  | ((with_reducible show @ite _ (_ = true) _ _ _); first | refine ifYes (by first | with_reducible rfl | exact Bool.not_false | assumption) ?_ | refine ifNo (by first | with_reducible rfl | exact Bool.not_true | assumption) ?_)
  | ((with_reducible show ∃ _, _ ∧ _); refine ⟨_, celL_of (by bv_omega), ?_⟩)
  | ((with_reducible show ∃ _ _ _ _, _ ∧ _ ∧ _ ∧ _ ∧ _); refine ⟨_, _, _, _, rfl, rfl, by bv_omega, by rfl, ?_⟩)
  | ((with_reducible show (_ : Nat) ≤ sizeLine ∧ _); refine ⟨by rw [sizeLine_eq]; exact Nat.le_of_ble_eq_true rfl, ?_⟩))
local macro_rules | `(tactic| infer_instance) => `(tactic| ((repeat symm); try dsimp only))
local macro_rules | `(tactic| ac_rfl) => `(tactic| ((repeat (first | symm | ((with_reducible show rdMod (.int _) (.int _) _ _); refine mod_any (by first | decide | assumption | omega) ?_; intro _ _ _))); try dsimp only))
theorem zip_asc {ms : List Int} (h : ms.Pairwise (· < ·)) {y : D} (hy : y ∈ zipD (ms.map D.int) ((ms.map D.int).drop 1)) : ∃ a b : Int, y = .tup [.int a, .int b] ∧ a < b := by
  unfold zipD at hy
  obtain ⟨i, hi⟩ := List.getElem?_of_mem hy
  rw [List.getElem?_zipWith, List.getElem?_drop, List.getElem?_map, List.getElem?_map] at hi
  cases e1 : ms[i]? with
  | none => rw [e1] at hi; simp at hi
  | some a =>
    cases e2 : ms[1 + i]? with
    | none => rw [e1, e2] at hi; simp at hi
    | some b =>
      rw [e1, e2] at hi
      simp at hi
      refine ⟨a, b, hi.symm, ?_⟩
      obtain ⟨p1, q1⟩ := List.getElem?_eq_some_iff.mp e1
      obtain ⟨p2, q2⟩ := List.getElem?_eq_some_iff.mp e2
      have := List.pairwise_iff_getElem.mp h i (1 + i) p1 p2 (by omega)
      rw [q1, q2] at this
      exact this
theorem kp_is_ascending (C : Addr) : Keeps N_is_ascending 1 (sd_is_ascending C) (db_is_ascending C) := by
  rintro ds M q ex hl ⟨ms, rfl, h16, hasc, h⟩
  show db_is_ascending C _ [some (intsT ms), none, none] M
  unfold db_is_ascending
  ac_rfl
  refine slf_tup (n := 1) ?_
  ac_rfl
  refine ⟨_, _, _, _, rfl, .inl ⟨rfl, rfl, ?_⟩⟩
  intro c hc
  refine lc_pure (fun _ => true) (fun _ => .bl true) hc ?_ (fun _ => trivial) (fun y hy acc hz nx hyes _ => ?_) ?_
  · unfold zipD; rw [List.length_zipWith, List.length_map, sizeLine_eq]; omega
  · obtain ⟨a, b, rfl, hab⟩ := zip_asc hasc hy
    ac_rfl
    rw [decide_eq_true hab]
    exact acc_put hz (hyes rfl)
  · refine all_true (fun y hy => ?_) h
    obtain ⟨_, _, e⟩ := List.mem_map.mp hy
    exact e.symm
theorem kp_is_free_name (C : Addr) : Keeps N_is_free_name 2 (sd_is_free_name C) (db_is_free_name C) := by
  rintro ds M q ex hl ⟨x, hs, rfl, hx, h12, hne, h⟩
  show db_is_free_name C _ [some (.str x), some (crewD hs), none] M
  unfold db_is_free_name
  ac_rfl
  refine ⟨x, rfl, hx, ?_⟩
  ac_rfl
  intro c hc
  refine lc_pure (fun _ => true) (fun _ => .bl false) hc (by rw [List.length_map, sizeLine_eq]; omega) (fun _ => rfl) (fun y hy acc hz nx hyes _ => ?_) ?_
  · obtain ⟨o, ho, rfl⟩ := List.mem_map.mp hy
    obtain ⟨h1, h2⟩ := hne o ho
    ac_rfl
    refine eq_str (name_ok hx) (name_ok h1) ?_
    rw [decide_eq_false (fun e => h2 e.symm)]
    exact acc_put hz (hyes rfl)
  · refine any_false (fun y hy => ?_) ?_
    · obtain ⟨_, _, e⟩ := List.mem_map.mp hy
      exact e.symm
    · ac_rfl
      exact h
theorem kp_are_free_marks (C : Addr) : Keeps N_are_free_marks 3 (sd_are_free_marks C) (db_are_free_marks C) := by
  rintro ds M q ex hl ⟨ms, size, hs, rfl, hm, h12, hfree, h⟩
  show db_are_free_marks C _ [some (intsT ms), some (.int size), some (crewD hs), none, none] M
  unfold db_are_free_marks
  ac_rfl
  have h1 := hm.ne
  have h16 := hm.few
  rw [List.length_map]
  refine ifD (fun h2 => ?_) (fun h2 => absurd h1 (by omega))
  ac_rfl
  rw [decide_eq_true (show (ms.length : Int) ≤ 16 by omega)]
  ac_rfl
  intro c hc
  refine lc_pure (fun _ => true) (fun _ => .bl true) hc (by rw [List.length_map, sizeLine_eq]; omega) (fun _ => rfl) (fun y hy acc hz nx hyes _ => ?_) ?_
  · obtain ⟨m, mm, rfl⟩ := List.mem_map.mp hy
    ac_rfl
    refine ⟨m, 0, size - 1, rfl, ?_⟩
    have := hm.inn m mm
    rw [decide_eq_true (show 0 ≤ m ∧ m ≤ size - 1 by omega)]
    exact acc_put hz (hyes rfl)
  · refine all_true (fun y hy => ?_) ?_
    · obtain ⟨_, _, e⟩ := List.mem_map.mp hy
      exact e.symm
    ac_rfl
    refine ⟨ms, rfl, h16, hm.asc, ?_⟩
    ac_rfl
    intro c2 hc2
    refine lc2_lst (fun i M' => ∃ acc : List D, M' = mset M c2 (.ls acc) ∧ (∀ x ∈ acc, x = .bl false) ∧ acc.length ≤ 16 * i) ?_ ?_ _ ⟨[], rfl, fun x hx => by simp at hx, Nat.zero_le _⟩
    · rintro M' ⟨acc, rfl, ha, hl⟩
      refine ⟨rfl, acc, mset_same, ?_⟩
      rw [mdel_mset hc2]
      refine any_false ha ?_
      ac_rfl
      exact h
    · rintro i x M' hx ⟨acc, rfl, ha, hl⟩ nx hnx
      refine ⟨rfl, ?_⟩
      have hi := (List.getElem?_eq_some_iff.mp hx).1
      rw [List.length_map] at hi
      obtain ⟨o, ho, rfl⟩ := List.mem_map.mp (List.mem_of_getElem? hx)
      ac_rfl

      refine in_lst (fun j M' => ∃ acc : List D, M' = mset M c2 (.ls acc) ∧ (∀ x ∈ acc, x = .bl false) ∧ acc.length ≤ 16 * i + j) ?_ ?_ _ ⟨acc, rfl, ha, by omega⟩
      · rintro M' ⟨acc, rfl, ha, hl⟩
        rw [List.length_map] at hl
        exact ⟨rfl, hnx _ ⟨acc, rfl, ha, by omega⟩⟩
      · rintro j x M' hx ⟨acc, rfl, ha, hl⟩ nx2 hnx2
        have hj := (List.getElem?_eq_some_iff.mp hx).1
        rw [List.length_map] at hj
        obtain ⟨m, mm, rfl⟩ := List.mem_map.mp (List.mem_of_getElem? hx)
        refine ⟨rfl, ?_⟩
        ac_rfl
        refine in_int (xs := o.marks) rfl ?_
        rw [decide_eq_false (hfree o ho m mm)]
        refine acc_put (by rw [sizeLine_eq]; omega) (hnx2 _ ⟨acc ++ [.bl false], rfl, fun x hx => ?_, by rw [List.length_append, List.length_singleton]; omega⟩)
        rcases List.mem_append.mp hx with hx | hx
        · exact ha x hx
        · exact List.mem_singleton.mp hx
theorem kp_is_next_host (C : Addr) : Keeps N_is_next_host 3 (sd_is_next_host C) (db_is_next_host C) := by
  rintro ds M q ex hl ⟨o, size, hs, rfl, hn, h12, hnames, h⟩
  show db_is_next_host C _ [some (hostD o), some (.int size), some (crewD hs), none, none, none] M
  unfold db_is_next_host
  ac_rfl
  refine ⟨o.name, hs, rfl, hn.name, h12, fun p hp => ⟨hnames p hp, hn.fresh p hp⟩, ?_⟩
  ac_rfl
  refine ⟨o.rack, rfl, hn.rack, ?_⟩
  ac_rfl
  exact ⟨o.marks, size, hs, rfl, hn.marks, h12, hn.free, h⟩
theorem crew_name {size : Int} {hs : List Host} (h : CrewOk size hs) : ∀ o ∈ hs, nameB o.name = true := fun o ho => by
  obtain ⟨i, hi⟩ := List.getElem?_of_mem ho
  exact (h.each i o hi).name
theorem crew_marks {size : Int} {hs : List Host} (h : CrewOk size hs) : ∀ o ∈ hs, MarksOk size o.marks := fun o ho => by
  obtain ⟨i, hi⟩ := List.getElem?_of_mem ho
  exact (h.each i o hi).marks
theorem mem_take {α : Type} {xs : List α} {i j : Nat} {x : α} (h : xs[i]? = some x) (hij : i < j) : x ∈ xs.take j := by
  refine List.mem_of_getElem? (i := i) ?_
  rw [List.getElem?_take, if_pos hij]; exact h
theorem crew_inj {size : Int} {hs : List Host} (h : CrewOk size hs) {o p : Host} (ho : o ∈ hs) (hp : p ∈ hs) (e : o.name = p.name) : o = p := by
  obtain ⟨i, hi⟩ := List.getElem?_of_mem ho
  obtain ⟨j, hj⟩ := List.getElem?_of_mem hp
  rcases Nat.lt_trichotomy i j with l | l | l
  · exact absurd e ((h.each j p hj).fresh o (mem_take hi l))
  · subst l; rw [hi] at hj; exact Option.some.inj hj
  · exact absurd e.symm ((h.each i o hi).fresh p (mem_take hj l))
theorem crew_apart {size : Int} {hs : List Host} (h : CrewOk size hs) {o p : Host} (ho : o ∈ hs) (hp : p ∈ hs) {m : Int} (m1 : m ∈ o.marks) (m2 : m ∈ p.marks) : o = p := by
  obtain ⟨i, hi⟩ := List.getElem?_of_mem ho
  obtain ⟨j, hj⟩ := List.getElem?_of_mem hp
  rcases Nat.lt_trichotomy i j with l | l | l
  · exact absurd m1 ((h.each j p hj).free o (mem_take hi l) m m2)
  · subst l; rw [hi] at hj; exact Option.some.inj hj
  · exact absurd m2 ((h.each i o hi).free p (mem_take hj l) m m1)
theorem crew_rack {size : Int} {hs : List Host} (h : CrewOk size hs) {o : Host} (ho : o ∈ hs) : rackOf hs o.name = o.rack := by
  unfold rackOf
  cases e : hs.find? fun h => decide (h.name = o.name) with
  | none =>
    have := List.find?_eq_none.mp e o ho
    simp at this
  | some p =>
    have h1 := List.find?_some e
    have h2 := List.mem_of_find?_eq_some e
    have : p = o := crew_inj h h2 ho (by simpa using h1)
    subst this
    rfl
theorem kp_check_hosts (C : Addr) : Keeps N_check_hosts 2 (sd_check_hosts C) (db_check_hosts C) := by
  rintro ds M q ex hl ⟨size, hs, rfl, hc, h⟩
  show db_check_hosts C _ [some (.int size), some (crewD hs), none, none] M
  unfold db_check_hosts
  ac_rfl
  have hne : 0 < hs.length := List.length_pos_iff.mpr hc.ne
  have h12 := hc.few
  rw [decide_eq_false (show ¬ (((hs.map hostD).length : Int) = 0) by rw [List.length_map]; omega)]
  ac_rfl
  refine for_lst (fun i env M' => M' = M ∧ ∃ t u, env = [some (.int size), some (crewD hs), t, u]) ?_ ?_ _ _ ⟨rfl, none, none, rfl⟩
  · rintro env M' ⟨rfl, t, u, rfl⟩
    exact ⟨rfl, h⟩
  · rintro i x env M' hx ⟨rfl, t, u, rfl⟩ nx hn
    refine ⟨rfl, ?_⟩
    obtain ⟨y, hy, rfl⟩ := enumD_get hx
    rw [List.getElem?_map] at hy
    obtain ⟨o, ho, rfl⟩ := omap hy
    have hi := (List.getElem?_eq_some_iff.mp ho).1
    ac_rfl
    rw [decide_eq_false (show ¬ ((i : Int) = 12) by omega)]
    ac_rfl
    refine sl_tup (n := i) ?_
    rw [← List.map_take]
    ac_rfl
    refine ⟨o, size, hs.take i, rfl, hc.each i o ho, by rw [List.length_take]; omega, fun p hp => crew_name hc p (List.mem_of_mem_take hp), ?_⟩
    ac_rfl
    exact hn _ _ ⟨rfl, _, _, rfl⟩
theorem kp_Ring___init__ (C : Addr) : Keeps N_Ring___init__ 8 (sd_Ring___init__ C) (db_Ring___init__ C) := by
  rintro ds M q ex hl ⟨c, size, r, hs, rfl, hM, s0, s1, hr, hc, h⟩
  show db_Ring___init__ C _ [some (.cel c), some (.int size), some (.int r.wide), some (.str r.spread), some (.int r.write), some (.int r.read), some (.str r.pend), some (crewD hs)] M
  unfold db_Ring___init__
  ac_rfl
  refine ⟨size, 1, 1000000000000000000, rfl, ?_⟩
  rw [decide_eq_true (show 1 ≤ size ∧ size ≤ 1000000000000000000 from ⟨s0, s1⟩)]
  ac_rfl
  refine ⟨r.wide, 1, 5, rfl, ?_⟩
  rw [decide_eq_true hr.w]
  ac_rfl
  refine .inl ⟨r.spread, ["hosts", "racks"], rfl, ?_⟩
  rw [decide_eq_true (show r.spread ∈ (["hosts", "racks"] : List Str) by rcases hr.s with e | e <;> rw [e] <;> simp)]
  ac_rfl
  refine ⟨r.write, 1, r.wide, rfl, ?_⟩
  rw [decide_eq_true hr.p]
  ac_rfl
  refine ⟨r.read, 1, r.wide, rfl, ?_⟩
  rw [decide_eq_true hr.g]
  ac_rfl
  refine .inl ⟨r.pend, ["plain", "with"], rfl, ?_⟩
  rw [decide_eq_true (show r.pend ∈ (["plain", "with"] : List Str) by rcases hr.m with e | e <;> rw [e] <;> simp)]
  ac_rfl
  refine ⟨size, hs, rfl, hc, ?_⟩
  ac_rfl
  refine ⟨c, _, rfl, hM, Nat.le_of_ble_eq_true rfl, ?_⟩
  ac_rfl
  refine ⟨c, _, rfl, mset_same, Nat.le_of_ble_eq_true rfl, ?_⟩
  ac_rfl
  refine ⟨c, _, rfl, mset_same, Nat.le_of_ble_eq_true rfl, ?_⟩
  ac_rfl
  refine ⟨c, _, rfl, mset_same, Nat.le_of_ble_eq_true rfl, ?_⟩
  ac_rfl
  refine ⟨c, _, rfl, mset_same, Nat.le_of_ble_eq_true rfl, ?_⟩
  ac_rfl
  refine ⟨c, _, rfl, mset_same, Nat.le_of_ble_eq_true rfl, ?_⟩
  ac_rfl
  refine ⟨c, _, rfl, mset_same, Nat.le_of_ble_eq_true rfl, ?_⟩
  simp only [mset_mset]
  exact h
theorem fs_ring {C : Addr} {size : Int} {r : Rule} {hs : List Host} {M : Mem} : fsOf M C (ringD C size r hs) = some (fieldsD size r hs) := by
  show (if C = C then some (fNames.zip (frameL size r hs)) else none) = _
  rw [if_pos rfl]
  rfl
theorem fld_ring {C : Addr} {size : Int} {r : Rule} {hs : List Host} {M : Mem} {B : D → Prop} {f : Str} {v : D} (h : (fieldsD size r hs).lookup f = some v) (w : B v) : ∃ fs v, fsOf M C (ringD C size r hs) = some fs ∧ fs.lookup f = some v ∧ B v := ⟨_, v, fs_ring, h, w⟩
theorem lk_hosts {size : Int} {r : Rule} {hs : List Host} : (fieldsD size r hs).lookup ("_hosts" : Str) = some (crewD hs) := by rfl
theorem lk_points {size : Int} {r : Rule} {hs : List Host} : (fieldsD size r hs).lookup ("_points" : Str) = some (.int size) := by rfl
theorem lk_spread {size : Int} {r : Rule} {hs : List Host} : (fieldsD size r hs).lookup ("_spread" : Str) = some (.str r.spread) := by rfl
theorem lk_factor {size : Int} {r : Rule} {hs : List Host} : (fieldsD size r hs).lookup ("_factor" : Str) = some (.int r.wide) := by rfl
theorem kp_Ring__way (C : Addr) : Keeps N_Ring__way 3 (sd_Ring__way C) (db_Ring__way C) := by
  rintro ds M q ex hl ⟨size, r, hs, p, ms, rfl, h0, h1, h16, h⟩
  show db_Ring__way C _ [some (ringD C size r hs), some (.int p), some (intsT ms), none] M
  unfold db_Ring__way
  ac_rfl
  intro c hc
  refine lc_pure (fun _ => true) (fun d => match d with | .int k => .int ((k - p) % size) | d => d) hc (by rw [List.length_map, sizeLine_eq]; omega) (fun _ => rfl) (fun y hy acc hz nx hyes _ => ?_) ?_
  · obtain ⟨m, mm, rfl⟩ := List.mem_map.mp hy
    infer_instance
    refine fld_ring lk_points ?_
    refine mod_int h0 ?_
    exact acc_put hz (hyes rfl)
  · have e : ((ms.map D.int).filter (fun _ => true)).map (fun d => match d with | .int k => .int ((k - p) % size) | d => d) = (ms.map fun k => (k - p) % size).map D.int := by
      rw [List.filter_eq_self.mpr (fun _ _ => rfl), List.map_map, List.map_map]; rfl
    rw [e]
    refine ⟨_, _, _, rfl, rfl, ints_map _, by rw [List.length_map]; omega, fun m m1 m2 => h m ⟨m1, m2⟩⟩
end R
set_option maxRecDepth 100000
set_option maxHeartbeats 1000000
namespace R
open PySem PySem.Spec PyProof.Rows L2 DL
local macro_rules | `(tactic| bv_omega) => `(tactic| first | assumption | exact mset_same)
local macro_rules | `(tactic| symm) => `(tactic| first
  | ((with_reducible show ∃ _, _ = _ ∧ _); refine ⟨_, rfl, ?_⟩)
  | ((with_reducible show _ = _ ∧ _); refine ⟨rfl, ?_⟩)
  | ((with_reducible show ∃ _ _, _ = _ ∧ _ = _ ∧ _); refine ⟨_, _, rfl, rfl, ?_⟩)
  | ((with_reducible show ∃ _ _, _ = _ ∧ _); refine ⟨_, _, rfl, ?_⟩)
  | ((with_reducible show ∃ _ _ _, _ = _ ∧ _); refine ⟨_, _, _, rfl, ?_⟩)
  | ((with_reducible show (_ ≤ _ ∧ _) ∧ _); refine ⟨by omega, ?_⟩)
  | with_reducible refine add_int ?_ | with_reducible refine sub_int ?_
  | with_reducible refine lt_int ?_ | with_reducible refine le_int ?_ | with_reducible refine gt_int ?_ | with_reducible refine ge_int ?_
  | with_reducible refine int_int ?_
  | with_reducible refine eq_int ?_ | with_reducible refine ne_int ?_
  | with_reducible refine len_tup ?_ | with_reducible refine len_lst ?_
  | ((with_reducible show rdIx (.cel _) (.int _) _ _); refine ix_cel (by bv_omega) (by rfl) ?_)
  | ((with_reducible show rdIx (.lst _) (.int _) _ _); refine ix_lst (by rfl) ?_)
  | ((with_reducible show rdIx (.tup _) (.int _) _ _); refine ix_tup (by rfl) ?_)
  | ((with_reducible show rdLen [.cel _] _ _); refine len_cel (by bv_omega) ?_)
  | ((with_reducible show rdMul (.int _) (.int _) _ _); first | refine mul_l (by decide) (by decide) ?_ | refine mul_r (by decide) (by decide) ?_ | refine mul_l (by omega) (by omega) ?_ | refine mul_r (by omega) (by omega) ?_)
  | ((with_reducible show rdDiv (.int _) (.int _) _ _); refine div_int (by first | decide | assumption | omega) (by first | decide | assumption | omega) ?_)
  | ((with_reducible show rdDivmod [.int _, .int _] _ _); refine dm_int (by first | decide | assumption | omega) (by first | decide | assumption | omega) ?_)
  | ((with_reducible show @ite _ (_ = true) _ _ _); first | refine ifYes (by first | with_reducible rfl | exact Bool.not_false | assumption) ?_ | refine ifNo (by first | with_reducible rfl | exact Bool.not_true | assumption) ?_)
  | ((with_reducible show ∃ _, _ ∧ _); refine ⟨_, celL_of (by bv_omega), ?_⟩)
  | ((with_reducible show ∃ _ _ _ _, _ ∧ _ ∧ _ ∧ _ ∧ _); refine ⟨_, _, _, _, rfl, rfl, by bv_omega, by rfl, ?_⟩)
  | ((with_reducible show (_ : Nat) ≤ sizeLine ∧ _); refine ⟨by rw [sizeLine_eq]; exact Nat.le_of_ble_eq_true rfl, ?_⟩))
local macro_rules | `(tactic| infer_instance) => `(tactic| ((repeat symm); try dsimp only))
local macro_rules | `(tactic| ac_rfl) => `(tactic| ((repeat (first | symm | ((with_reducible show rdMod (.int _) (.int _) _ _); refine mod_any (by first | decide | assumption | omega) ?_; intro _ _ _))); try dsimp only))
theorem str_ext {x y : Str} (h : x.cps.toList = y.cps.toList) : x = y := TL.ext_tl h
theorem num_tl (n : Nat) : (numS (n : Int)).cps.toList = TL.numL n := TL.tl_num n
theorem num_len {i : Int} (h0 : 0 ≤ i) (h1 : i < 10 ^ 19) : (numS i).length ≤ 19 := by
  obtain ⟨n, rfl⟩ := Int.eq_ofNat_of_zero_le h0
  rw [str_len, num_tl]; exact TL.numL_len (by decide) (by omega)
theorem sum_le {α : Type} {f : α → Nat} {b : Nat} : ∀ {l : List α}, (∀ x ∈ l, f x ≤ b) → (l.map f).sum ≤ l.length * b
  | [], _ => by simp
  | x :: l, h => by
    have := sum_le (l := l) fun y hy => h y (List.mem_cons_of_mem _ hy)
    have h1 := h x (by simp)
    rw [List.map_cons, List.sum_cons, List.length_cons, Nat.succ_mul]
    omega
end R
set_option maxRecDepth 100000
set_option maxHeartbeats 1000000
namespace R
open PySem PySem.Spec PyProof.Rows L2 DL
local macro_rules | `(tactic| bv_omega) => `(tactic| first | assumption | exact mset_same)
local macro_rules | `(tactic| symm) => `(tactic| first
  | ((with_reducible show ∃ _, _ = _ ∧ _); refine ⟨_, rfl, ?_⟩)
  | ((with_reducible show _ = _ ∧ _); refine ⟨rfl, ?_⟩)
  | ((with_reducible show ∃ _ _, _ = _ ∧ _ = _ ∧ _); refine ⟨_, _, rfl, rfl, ?_⟩)
  | ((with_reducible show ∃ _ _, _ = _ ∧ _); refine ⟨_, _, rfl, ?_⟩)
  | ((with_reducible show ∃ _ _ _, _ = _ ∧ _); refine ⟨_, _, _, rfl, ?_⟩)
  | ((with_reducible show (_ ≤ _ ∧ _) ∧ _); refine ⟨by omega, ?_⟩)
  | with_reducible refine add_int ?_ | with_reducible refine sub_int ?_
  | with_reducible refine lt_int ?_ | with_reducible refine le_int ?_ | with_reducible refine gt_int ?_ | with_reducible refine ge_int ?_
  | with_reducible refine int_int ?_
  | with_reducible refine eq_int ?_ | with_reducible refine ne_int ?_
  | with_reducible refine len_tup ?_ | with_reducible refine len_lst ?_
  | ((with_reducible show rdIx (.cel _) (.int _) _ _); refine ix_cel (by bv_omega) (by rfl) ?_)
  | ((with_reducible show rdIx (.lst _) (.int _) _ _); refine ix_lst (by rfl) ?_)
  | ((with_reducible show rdIx (.tup _) (.int _) _ _); refine ix_tup (by rfl) ?_)
  | ((with_reducible show rdLen [.cel _] _ _); refine len_cel (by bv_omega) ?_)
  | ((with_reducible show rdMul (.int _) (.int _) _ _); first | refine mul_l (by decide) (by decide) ?_ | refine mul_r (by decide) (by decide) ?_ | refine mul_l (by omega) (by omega) ?_ | refine mul_r (by omega) (by omega) ?_)
  | ((with_reducible show rdDiv (.int _) (.int _) _ _); refine div_int (by first | decide | assumption | omega) (by first | decide | assumption | omega) ?_)
  | ((with_reducible show rdDivmod [.int _, .int _] _ _); refine dm_int (by first | decide | assumption | omega) (by first | decide | assumption | omega) ?_)
  | ((with_reducible show @ite _ (_ = true) _ _ _); first | refine ifYes (by first | with_reducible rfl | exact Bool.not_false | assumption) ?_ | refine ifNo (by first | with_reducible rfl | exact Bool.not_true | assumption) ?_)
  | ((with_reducible show ∃ _, _ ∧ _); refine ⟨_, celL_of (by bv_omega), ?_⟩)
  | ((with_reducible show ∃ _ _ _ _, _ ∧ _ ∧ _ ∧ _ ∧ _); refine ⟨_, _, _, _, rfl, rfl, by bv_omega, by rfl, ?_⟩)
  | ((with_reducible show (_ : Nat) ≤ sizeLine ∧ _); refine ⟨by rw [sizeLine_eq]; exact Nat.le_of_ble_eq_true rfl, ?_⟩))
local macro_rules | `(tactic| infer_instance) => `(tactic| ((repeat symm); try dsimp only))
local macro_rules | `(tactic| ac_rfl) => `(tactic| ((repeat (first | symm | ((with_reducible show rdMod (.int _) (.int _) _ _); refine mod_any (by first | decide | assumption | omega) ?_; intro _ _ _))); try dsimp only))
theorem sp_len : (" " : Str).length = 1 := by decide +kernel
end R
set_option maxRecDepth 100000
set_option maxHeartbeats 1000000
namespace R
open PySem PySem.Spec PyProof.Rows L2 DL
local macro_rules | `(tactic| bv_omega) => `(tactic| first | assumption | exact mset_same)
local macro_rules | `(tactic| symm) => `(tactic| first
  | ((with_reducible show ∃ _, _ = _ ∧ _); refine ⟨_, rfl, ?_⟩)
  | ((with_reducible show _ = _ ∧ _); refine ⟨rfl, ?_⟩)
  | ((with_reducible show ∃ _ _, _ = _ ∧ _ = _ ∧ _); refine ⟨_, _, rfl, rfl, ?_⟩)
  | ((with_reducible show ∃ _ _, _ = _ ∧ _); refine ⟨_, _, rfl, ?_⟩)
  | ((with_reducible show ∃ _ _ _, _ = _ ∧ _); refine ⟨_, _, _, rfl, ?_⟩)
  | ((with_reducible show (_ ≤ _ ∧ _) ∧ _); refine ⟨by omega, ?_⟩)
  | with_reducible refine add_int ?_ | with_reducible refine sub_int ?_
  | with_reducible refine lt_int ?_ | with_reducible refine le_int ?_ | with_reducible refine gt_int ?_ | with_reducible refine ge_int ?_
  | with_reducible refine int_int ?_
  | with_reducible refine eq_int ?_ | with_reducible refine ne_int ?_
  | with_reducible refine len_tup ?_ | with_reducible refine len_lst ?_
  | ((with_reducible show rdIx (.cel _) (.int _) _ _); refine ix_cel (by bv_omega) (by rfl) ?_)
  | ((with_reducible show rdIx (.lst _) (.int _) _ _); refine ix_lst (by rfl) ?_)
  | ((with_reducible show rdIx (.tup _) (.int _) _ _); refine ix_tup (by rfl) ?_)
  | ((with_reducible show rdLen [.cel _] _ _); refine len_cel (by bv_omega) ?_)
  | ((with_reducible show rdMul (.int _) (.int _) _ _); first | refine mul_l (by decide) (by decide) ?_ | refine mul_r (by decide) (by decide) ?_ | refine mul_l (by omega) (by omega) ?_ | refine mul_r (by omega) (by omega) ?_)
  | ((with_reducible show rdDiv (.int _) (.int _) _ _); refine div_int (by first | decide | assumption | omega) (by first | decide | assumption | omega) ?_)
  | ((with_reducible show rdDivmod [.int _, .int _] _ _); refine dm_int (by first | decide | assumption | omega) (by first | decide | assumption | omega) ?_)
  | ((with_reducible show @ite _ (_ = true) _ _ _); first | refine ifYes (by first | with_reducible rfl | exact Bool.not_false | assumption) ?_ | refine ifNo (by first | with_reducible rfl | exact Bool.not_true | assumption) ?_)
  | ((with_reducible show ∃ _, _ ∧ _); refine ⟨_, celL_of (by bv_omega), ?_⟩)
  | ((with_reducible show ∃ _ _ _ _, _ ∧ _ ∧ _ ∧ _ ∧ _); refine ⟨_, _, _, _, rfl, rfl, by bv_omega, by rfl, ?_⟩)
  | ((with_reducible show (_ : Nat) ≤ sizeLine ∧ _); refine ⟨by rw [sizeLine_eq]; exact Nat.le_of_ble_eq_true rfl, ?_⟩))
local macro_rules | `(tactic| infer_instance) => `(tactic| ((repeat symm); try dsimp only))
local macro_rules | `(tactic| ac_rfl) => `(tactic| ((repeat (first | symm | ((with_reducible show rdMod (.int _) (.int _) _ _); refine mod_any (by first | decide | assumption | omega) ?_; intro _ _ _))); try dsimp only))
theorem log_ok {i : Int} (h0 : 0 ≤ i) (h1 : i < 10 ^ 19) : i.natAbs.log2 < 1920 := by
  obtain ⟨n, rfl⟩ := Int.eq_ofNat_of_zero_le h0
  have h2 : n < 2 ^ 64 := by omega
  have : (n : Int).natAbs = n := by omega
  rw [this]
  by_cases hn : n = 0
  · subst hn; decide
  · have := (Nat.log2_lt hn).mpr h2
    omega
end R
set_option maxRecDepth 100000
set_option maxHeartbeats 1000000
namespace R
open PySem PySem.Spec PyProof.Rows L2 DL
local macro_rules | `(tactic| bv_omega) => `(tactic| first | assumption | exact mset_same)
local macro_rules | `(tactic| symm) => `(tactic| first
  | ((with_reducible show ∃ _, _ = _ ∧ _); refine ⟨_, rfl, ?_⟩)
  | ((with_reducible show _ = _ ∧ _); refine ⟨rfl, ?_⟩)
  | ((with_reducible show ∃ _ _, _ = _ ∧ _ = _ ∧ _); refine ⟨_, _, rfl, rfl, ?_⟩)
  | ((with_reducible show ∃ _ _, _ = _ ∧ _); refine ⟨_, _, rfl, ?_⟩)
  | ((with_reducible show ∃ _ _ _, _ = _ ∧ _); refine ⟨_, _, _, rfl, ?_⟩)
  | ((with_reducible show (_ ≤ _ ∧ _) ∧ _); refine ⟨by omega, ?_⟩)
  | with_reducible refine add_int ?_ | with_reducible refine sub_int ?_
  | with_reducible refine lt_int ?_ | with_reducible refine le_int ?_ | with_reducible refine gt_int ?_ | with_reducible refine ge_int ?_
  | with_reducible refine int_int ?_
  | with_reducible refine eq_int ?_ | with_reducible refine ne_int ?_
  | with_reducible refine len_tup ?_ | with_reducible refine len_lst ?_
  | ((with_reducible show rdIx (.cel _) (.int _) _ _); refine ix_cel (by bv_omega) (by rfl) ?_)
  | ((with_reducible show rdIx (.lst _) (.int _) _ _); refine ix_lst (by rfl) ?_)
  | ((with_reducible show rdIx (.tup _) (.int _) _ _); refine ix_tup (by rfl) ?_)
  | ((with_reducible show rdLen [.cel _] _ _); refine len_cel (by bv_omega) ?_)
  | ((with_reducible show rdMul (.int _) (.int _) _ _); first | refine mul_l (by decide) (by decide) ?_ | refine mul_r (by decide) (by decide) ?_ | refine mul_l (by omega) (by omega) ?_ | refine mul_r (by omega) (by omega) ?_)
  | ((with_reducible show rdDiv (.int _) (.int _) _ _); refine div_int (by first | decide | assumption | omega) (by first | decide | assumption | omega) ?_)
  | ((with_reducible show rdDivmod [.int _, .int _] _ _); refine dm_int (by first | decide | assumption | omega) (by first | decide | assumption | omega) ?_)
  | ((with_reducible show @ite _ (_ = true) _ _ _); first | refine ifYes (by first | with_reducible rfl | exact Bool.not_false | assumption) ?_ | refine ifNo (by first | with_reducible rfl | exact Bool.not_true | assumption) ?_)
  | ((with_reducible show ∃ _, _ ∧ _); refine ⟨_, celL_of (by bv_omega), ?_⟩)
  | ((with_reducible show ∃ _ _ _ _, _ ∧ _ ∧ _ ∧ _ ∧ _); refine ⟨_, _, _, _, rfl, rfl, by bv_omega, by rfl, ?_⟩)
  | ((with_reducible show (_ : Nat) ≤ sizeLine ∧ _); refine ⟨by rw [sizeLine_eq]; exact Nat.le_of_ble_eq_true rfl, ?_⟩))
local macro_rules | `(tactic| infer_instance) => `(tactic| ((repeat symm); try dsimp only))
local macro_rules | `(tactic| ac_rfl) => `(tactic| ((repeat (first | symm | ((with_reducible show rdMod (.int _) (.int _) _ _); refine mod_any (by first | decide | assumption | omega) ?_; intro _ _ _))); try dsimp only))
theorem lk_way {size : Int} {r : Rule} {hs : List Host} : (fieldsD size r hs).lookup ("_way" : Str) = none := by rfl
theorem kp_Ring_points (C : Addr) : Keeps N_Ring_points 1 (sd_Ring_points C) (db_Ring_points C) := by
  rintro ds M q ex hl ⟨size, r, hs, rfl, h⟩
  show db_Ring_points C _ [some (ringD C size r hs)] M
  unfold db_Ring_points
  infer_instance
  refine fld_ring lk_points ?_
  exact h
theorem kp_Ring_factor (C : Addr) : Keeps N_Ring_factor 1 (sd_Ring_factor C) (db_Ring_factor C) := by
  rintro ds M q ex hl ⟨size, r, hs, rfl, h⟩
  show db_Ring_factor C _ [some (ringD C size r hs)] M
  unfold db_Ring_factor
  infer_instance
  refine fld_ring lk_factor ?_
  exact h
theorem kp_Ring_spread (C : Addr) : Keeps N_Ring_spread 1 (sd_Ring_spread C) (db_Ring_spread C) := by
  rintro ds M q ex hl ⟨size, r, hs, rfl, h⟩
  show db_Ring_spread C _ [some (ringD C size r hs)] M
  unfold db_Ring_spread
  infer_instance
  refine fld_ring lk_spread ?_
  exact h
theorem kp_Ring_hosts (C : Addr) : Keeps N_Ring_hosts 1 (sd_Ring_hosts C) (db_Ring_hosts C) := by
  rintro ds M q ex hl ⟨size, r, hs, rfl, h⟩
  show db_Ring_hosts C _ [some (ringD C size r hs)] M
  unfold db_Ring_hosts
  infer_instance
  refine fld_ring lk_hosts ?_
  exact h
theorem kp_check_point (C : Addr) : Keeps N_check_point 2 (sd_check_point C) (db_check_point C) := by
  rintro ds M q ex hl ⟨size, r, hs, p, rfl, p0, p1, h⟩
  show db_check_point C _ [some (ringD C size r hs), some (.int p)] M
  unfold db_check_point
  infer_instance
  refine ⟨_, fs_ring, size, r, hs, rfl, ?_⟩
  infer_instance
  refine ⟨p, 0, size - 1, rfl, ?_⟩
  rw [decide_eq_true (show 0 ≤ p ∧ p ≤ size - 1 by omega)]
  infer_instance
  exact h
theorem mod_inj {size p a b : Int} (ha : 0 ≤ a ∧ a < size) (hb : 0 ≤ b ∧ b < size) (e : (a - p) % size = (b - p) % size) : a = b := by
  have e1 : (a - p - (b - p)) % size = 0 := by rw [Int.sub_emod, e, Int.sub_self, Int.zero_emod]
  have e2 : a - p - (b - p) = a - b := by omega
  rw [e2] at e1
  obtain ⟨k, hk⟩ := Int.dvd_of_emod_eq_zero e1
  have h1 : -size < size * k := by omega
  have h2 : size * k < size := by omega
  have hs : 0 < size := by omega
  have k0 : k = 0 := by
    rcases Int.lt_trichotomy k 0 with h | h | h
    · exfalso
      have : size * k ≤ size * (-1) := Int.mul_le_mul_of_nonneg_left (by omega) (by omega)
      omega
    · exact h
    · exfalso
      have : size * 1 ≤ size * k := Int.mul_le_mul_of_nonneg_left (by omega) (by omega)
      omega
  rw [k0, Int.mul_zero] at hk
  omega
theorem way_apart {size p : Int} {hs : List Host} (hc : CrewOk size hs) {o o' : Host} (ho : o ∈ hs) (ho' : o' ∈ hs) {m : Int} (h : IsWay size p o.marks m) (h' : IsWay size p o'.marks m) : o = o' := by
  obtain ⟨a, ha, ea⟩ := List.mem_map.mp h.1
  obtain ⟨b, hb, eb⟩ := List.mem_map.mp h'.1
  have : a = b := mod_inj ((crew_marks hc o ho).inn a ha) ((crew_marks hc o' ho').inn b hb) (ea.trans eb.symm)
  subst this
  exact crew_apart hc ho ho' ha hb
theorem kp_Ring_walk (C : Addr) : Keeps N_Ring_walk 2 (sd_Ring_walk C) (db_Ring_walk C) := by
  rintro ds M q ex hl ⟨size, r, hs, p, rfl, hc, p0, p1, h⟩
  show db_Ring_walk C _ [some (ringD C size r hs), some (.int p), none, none, none, none] M
  unfold db_Ring_walk
  infer_instance
  refine ⟨size, r, hs, p, rfl, p0, p1, ?_⟩
  infer_instance
  refine fld_ring lk_hosts ?_
  infer_instance
  intro c hcn
  refine lc_lst (fun i M' => ∃ ws : List (Int × Str), M' = mset M c (.ls (ws.map DL.pairD)) ∧ ws.map (·.2) = (hs.take i).map (·.name) ∧ ∀ a ∈ ws, ∃ h ∈ hs, h.name = a.2 ∧ IsWay size p h.marks a.1) ?_ ?_ _ ⟨[], rfl, rfl, fun a ha => by simp at ha⟩
  · rintro M' ⟨ws, rfl, hw, ha⟩
    rw [List.length_map, List.take_length] at hw
    refine ⟨rfl, _, mset_same, ?_⟩
    rw [mdel_mset hcn]
    infer_instance
    refine ⟨_, _, ws, rfl, rfl, pairsD_map ws, fun a ma b mb e => ?_, fun ps' hp hs' => ?_⟩
    · obtain ⟨o, mo, eo, wo⟩ := ha a ma
      obtain ⟨o', mo', eo', wo'⟩ := ha b mb
      rw [e] at wo
      have := way_apart hc mo mo' wo wo'
      rw [← eo, ← eo', this]
    · infer_instance
      intro c2 hc2
      have hlen : ps'.length ≤ 12 := by
        rw [hp.length_eq]
        have := congrArg List.length hw
        rw [List.length_map, List.length_map] at this
        have := hc.few
        omega
      refine lc_pure (fun _ => true) (fun d => match d with | .tup [_, b] => b | d => d) hc2 (by rw [List.length_map, sizeLine_eq]; omega) (fun _ => rfl) (fun y hy acc hz nx hyes _ => ?_) ?_
      · obtain ⟨⟨a1, a2⟩, ma, rfl⟩ := List.mem_map.mp hy
        unfold DL.pairD at hyes ⊢
        infer_instance
        exact acc_put hz (hyes rfl)
      · have e : ((ps'.map DL.pairD).filter (fun _ => true)).map (fun d => match d with | .tup [_, b] => b | d => d) = (ps'.map (·.2)).map D.str := by
          rw [List.filter_eq_self.mpr (fun _ _ => rfl), List.map_map, List.map_map]; rfl
        rw [e]
        infer_instance
        refine ⟨_, _, rfl, rfl, ?_⟩
        refine h _ ⟨ps', hs', rfl, ?_, fun a m => ha a (hp.mem_iff.mp m)⟩
        have := hp.map (·.2)
        rw [hw] at this
        exact this
  · rintro i x M' hx ⟨ws, rfl, hw, ha⟩ nx hnx
    refine ⟨rfl, ?_⟩
    rw [List.getElem?_map] at hx
    obtain ⟨o, ho, rfl⟩ := omap hx
    have hi := (List.getElem?_eq_some_iff.mp ho).1
    have hmem := List.mem_of_getElem? ho
    have hm := crew_marks hc o hmem
    have h12 := hc.few
    have hwl : ws.length ≤ 12 := by
      have := congrArg List.length hw
      rw [List.length_map, List.length_map, List.length_take] at this
      omega
    infer_instance
    refine ⟨_, fs_ring, lk_way, ?_⟩
    infer_instance
    refine ⟨size, r, hs, p, o.marks, rfl, by omega, hm.ne, hm.few, fun m hm => ?_⟩
    infer_instance
    refine acc_put (by rw [List.length_map, sizeLine_eq]; omega) (hnx _ ⟨ws ++ [(m, o.name)], by rw [List.map_append]; rfl, ?_, fun a ma => ?_⟩)
    · rw [List.map_append, hw, List.take_succ, ho, List.map_append]
      rfl
    · rcases List.mem_append.mp ma with ma | ma
      · exact ha a ma
      · rw [List.mem_singleton.mp ma]; exact ⟨o, hmem, rfl, hm⟩
end R
set_option maxRecDepth 100000
set_option maxHeartbeats 1000000
namespace R
open PySem PySem.Spec PyProof.Rows L2 DL
local macro_rules | `(tactic| bv_omega) => `(tactic| first | assumption | exact mset_same)
local macro_rules | `(tactic| symm) => `(tactic| first
  | ((with_reducible show ∃ _, _ = _ ∧ _); refine ⟨_, rfl, ?_⟩)
  | ((with_reducible show _ = _ ∧ _); refine ⟨rfl, ?_⟩)
  | ((with_reducible show ∃ _ _, _ = _ ∧ _ = _ ∧ _); refine ⟨_, _, rfl, rfl, ?_⟩)
  | ((with_reducible show ∃ _ _, _ = _ ∧ _); refine ⟨_, _, rfl, ?_⟩)
  | ((with_reducible show ∃ _ _ _, _ = _ ∧ _); refine ⟨_, _, _, rfl, ?_⟩)
  | ((with_reducible show (_ ≤ _ ∧ _) ∧ _); refine ⟨by omega, ?_⟩)
  | with_reducible refine add_int ?_ | with_reducible refine sub_int ?_
  | with_reducible refine lt_int ?_ | with_reducible refine le_int ?_ | with_reducible refine gt_int ?_ | with_reducible refine ge_int ?_
  | with_reducible refine int_int ?_
  | with_reducible refine eq_int ?_ | with_reducible refine ne_int ?_
  | with_reducible refine len_tup ?_ | with_reducible refine len_lst ?_
  | ((with_reducible show rdIx (.cel _) (.int _) _ _); refine ix_cel (by bv_omega) (by rfl) ?_)
  | ((with_reducible show rdIx (.lst _) (.int _) _ _); refine ix_lst (by rfl) ?_)
  | ((with_reducible show rdIx (.tup _) (.int _) _ _); refine ix_tup (by rfl) ?_)
  | ((with_reducible show rdLen [.cel _] _ _); refine len_cel (by bv_omega) ?_)
  | ((with_reducible show rdMul (.int _) (.int _) _ _); first | refine mul_l (by decide) (by decide) ?_ | refine mul_r (by decide) (by decide) ?_ | refine mul_l (by omega) (by omega) ?_ | refine mul_r (by omega) (by omega) ?_)
  | ((with_reducible show rdDiv (.int _) (.int _) _ _); refine div_int (by first | decide | assumption | omega) (by first | decide | assumption | omega) ?_)
  | ((with_reducible show rdDivmod [.int _, .int _] _ _); refine dm_int (by first | decide | assumption | omega) (by first | decide | assumption | omega) ?_)
  | ((with_reducible show @ite _ (_ = true) _ _ _); first | refine ifYes (by first | with_reducible rfl | exact Bool.not_false | assumption) ?_ | refine ifNo (by first | with_reducible rfl | exact Bool.not_true | assumption) ?_)
  | ((with_reducible show ∃ _, _ ∧ _); refine ⟨_, celL_of (by bv_omega), ?_⟩)
  | ((with_reducible show ∃ _ _ _ _, _ ∧ _ ∧ _ ∧ _ ∧ _); refine ⟨_, _, _, _, rfl, rfl, by bv_omega, by rfl, ?_⟩)
  | ((with_reducible show (_ : Nat) ≤ sizeLine ∧ _); refine ⟨by rw [sizeLine_eq]; exact Nat.le_of_ble_eq_true rfl, ?_⟩))
local macro_rules | `(tactic| infer_instance) => `(tactic| ((repeat symm); try dsimp only))
local macro_rules | `(tactic| ac_rfl) => `(tactic| ((repeat (first | symm | ((with_reducible show rdMod (.int _) (.int _) _ _); refine mod_any (by first | decide | assumption | omega) ?_; intro _ _ _))); try dsimp only))
theorem kg_put {M : Mem} {k c : Addr} {g : Int} {x : Cel} (h : Kg M k g) (n : M c = none) : Kg (mset M c x) k g := by
  obtain ⟨a, b, d, h3, h⟩ := h
  exact ⟨a, b, d, by rw [mset_ne (fun e => by rw [e, n] at h3; cases h3)]; exact h3, h⟩
end R
set_option maxRecDepth 100000
set_option maxHeartbeats 1000000
namespace R
open PySem PySem.Spec PyProof.Rows L2 DL
local macro_rules | `(tactic| bv_omega) => `(tactic| first | assumption | exact mset_same)
local macro_rules | `(tactic| symm) => `(tactic| first
  | ((with_reducible show ∃ _, _ = _ ∧ _); refine ⟨_, rfl, ?_⟩)
  | ((with_reducible show _ = _ ∧ _); refine ⟨rfl, ?_⟩)
  | ((with_reducible show ∃ _ _, _ = _ ∧ _ = _ ∧ _); refine ⟨_, _, rfl, rfl, ?_⟩)
  | ((with_reducible show ∃ _ _, _ = _ ∧ _); refine ⟨_, _, rfl, ?_⟩)
  | ((with_reducible show ∃ _ _ _, _ = _ ∧ _); refine ⟨_, _, _, rfl, ?_⟩)
  | ((with_reducible show (_ ≤ _ ∧ _) ∧ _); refine ⟨by omega, ?_⟩)
  | with_reducible refine add_int ?_ | with_reducible refine sub_int ?_
  | with_reducible refine lt_int ?_ | with_reducible refine le_int ?_ | with_reducible refine gt_int ?_ | with_reducible refine ge_int ?_
  | with_reducible refine int_int ?_
  | with_reducible refine eq_int ?_ | with_reducible refine ne_int ?_
  | with_reducible refine len_tup ?_ | with_reducible refine len_lst ?_
  | ((with_reducible show rdIx (.cel _) (.int _) _ _); refine ix_cel (by bv_omega) (by rfl) ?_)
  | ((with_reducible show rdIx (.lst _) (.int _) _ _); refine ix_lst (by rfl) ?_)
  | ((with_reducible show rdIx (.tup _) (.int _) _ _); refine ix_tup (by rfl) ?_)
  | ((with_reducible show rdLen [.cel _] _ _); refine len_cel (by bv_omega) ?_)
  | ((with_reducible show rdMul (.int _) (.int _) _ _); first | refine mul_l (by decide) (by decide) ?_ | refine mul_r (by decide) (by decide) ?_ | refine mul_l (by omega) (by omega) ?_ | refine mul_r (by omega) (by omega) ?_)
  | ((with_reducible show rdDiv (.int _) (.int _) _ _); refine div_int (by first | decide | assumption | omega) (by first | decide | assumption | omega) ?_)
  | ((with_reducible show rdDivmod [.int _, .int _] _ _); refine dm_int (by first | decide | assumption | omega) (by first | decide | assumption | omega) ?_)
  | ((with_reducible show @ite _ (_ = true) _ _ _); first | refine ifYes (by first | with_reducible rfl | exact Bool.not_false | assumption) ?_ | refine ifNo (by first | with_reducible rfl | exact Bool.not_true | assumption) ?_)
  | ((with_reducible show ∃ _, _ ∧ _); refine ⟨_, celL_of (by bv_omega), ?_⟩)
  | ((with_reducible show ∃ _ _ _ _, _ ∧ _ ∧ _ ∧ _ ∧ _); refine ⟨_, _, _, _, rfl, rfl, by bv_omega, by rfl, ?_⟩)
  | ((with_reducible show (_ : Nat) ≤ sizeLine ∧ _); refine ⟨by rw [sizeLine_eq]; exact Nat.le_of_ble_eq_true rfl, ?_⟩))
local macro_rules | `(tactic| infer_instance) => `(tactic| ((repeat symm); try dsimp only))
local macro_rules | `(tactic| ac_rfl) => `(tactic| ((repeat (first | symm | ((with_reducible show rdMod (.int _) (.int _) _ _); refine mod_any (by first | decide | assumption | omega) ?_; intro _ _ _))); try dsimp only))
theorem getK_set {s : List (Key × D)} {k k' : Key} {v : D} : getK (setK s k v) k' = if k = k' then some v else getK s k' := by
  unfold setK
  by_cases ha : (s.any fun kv => decide (kv.1 = k)) = true
  · rw [if_pos ha]
    induction s with
    | nil => simp at ha
    | cons x xs ih =>
      obtain ⟨xk, xv⟩ := x
      rw [List.map_cons]
      by_cases e : xk = k
      · subst e
        rw [if_pos rfl]
        by_cases e2 : xk = k'
        · subst e2; rw [if_pos rfl]; simp [getK, List.find?_cons]
        · rw [if_neg e2]
          have h1 : ∀ (v : D) (r : List (Key × D)), getK ((xk, v) :: r) k' = getK r k' := fun v r => by simp [getK, List.find?_cons, e2]
          rw [h1, h1]
          by_cases hb : (xs.any fun kv => decide (kv.1 = xk)) = true
          · have := ih hb
            rw [if_neg e2] at this
            exact this
          · have : (xs.map fun kv => if kv.1 = xk then (kv.1, v) else kv) = xs := by
              conv => rhs; rw [← List.map_id xs]
              refine List.map_congr_left fun kv hkv => ?_
              have : ¬ kv.1 = xk := fun z => hb (List.any_eq_true.mpr ⟨kv, hkv, decide_eq_true z⟩)
              rw [if_neg this]; rfl
            rw [this]
      · rw [if_neg e]
        have hb : (xs.any fun kv => decide (kv.1 = k)) = true := by
          rw [List.any_cons, Bool.or_eq_true] at ha
          rcases ha with h | h
          · exact absurd (of_decide_eq_true h) e
          · exact h
        by_cases e2 : xk = k'
        · subst e2
          rw [if_neg (Ne.symm e)]
          simp [getK, List.find?_cons]
        · have h1 : ∀ (r : List (Key × D)), getK ((xk, xv) :: r) k' = getK r k' := fun r => by simp [getK, List.find?_cons, e2]
          rw [h1, h1]
          exact ih hb
  · rw [if_neg ha]
    have hn : getK s k = none := by
      unfold getK
      have : s.find? (fun kv => decide (kv.1 = k)) = none := by
        rw [List.find?_eq_none]
        intro x hx hd
        exact ha (List.any_eq_true.mpr ⟨x, hx, hd⟩)
      rw [this]; rfl
    unfold getK at hn ⊢
    rw [List.find?_append]
    by_cases e : k = k'
    · subst e
      rw [if_pos rfl]
      cases hh : s.find? (fun kv => decide (kv.1 = k)) with
      | none => simp [List.find?_cons]
      | some x => rw [hh] at hn; cases hn
    · rw [if_neg e]
      cases hh : s.find? (fun kv => decide (kv.1 = k')) with
      | none => simp [List.find?_cons, e]
      | some x => rfl
theorem setK_len {s : List (Key × D)} {k : Key} {v : D} : (setK s k v).length ≤ s.length + 1 := by
  unfold setK
  split
  · rw [List.length_map]; omega
  · rw [List.length_append, List.length_singleton]; omega
end R
set_option maxRecDepth 100000
set_option maxHeartbeats 1000000
namespace R
open PySem PySem.Spec PyProof.Rows L2 DL
local macro_rules | `(tactic| bv_omega) => `(tactic| first | assumption | exact mset_same)
local macro_rules | `(tactic| symm) => `(tactic| first
  | ((with_reducible show ∃ _, _ = _ ∧ _); refine ⟨_, rfl, ?_⟩)
  | ((with_reducible show _ = _ ∧ _); refine ⟨rfl, ?_⟩)
  | ((with_reducible show ∃ _ _, _ = _ ∧ _ = _ ∧ _); refine ⟨_, _, rfl, rfl, ?_⟩)
  | ((with_reducible show ∃ _ _, _ = _ ∧ _); refine ⟨_, _, rfl, ?_⟩)
  | ((with_reducible show ∃ _ _ _, _ = _ ∧ _); refine ⟨_, _, _, rfl, ?_⟩)
  | ((with_reducible show (_ ≤ _ ∧ _) ∧ _); refine ⟨by omega, ?_⟩)
  | with_reducible refine add_int ?_ | with_reducible refine sub_int ?_
  | with_reducible refine lt_int ?_ | with_reducible refine le_int ?_ | with_reducible refine gt_int ?_ | with_reducible refine ge_int ?_
  | with_reducible refine int_int ?_
  | with_reducible refine eq_int ?_ | with_reducible refine ne_int ?_
  | with_reducible refine len_tup ?_ | with_reducible refine len_lst ?_
  | ((with_reducible show rdIx (.cel _) (.int _) _ _); refine ix_cel (by bv_omega) (by rfl) ?_)
  | ((with_reducible show rdIx (.lst _) (.int _) _ _); refine ix_lst (by rfl) ?_)
  | ((with_reducible show rdIx (.tup _) (.int _) _ _); refine ix_tup (by rfl) ?_)
  | ((with_reducible show rdLen [.cel _] _ _); refine len_cel (by bv_omega) ?_)
  | ((with_reducible show rdMul (.int _) (.int _) _ _); first | refine mul_l (by decide) (by decide) ?_ | refine mul_r (by decide) (by decide) ?_ | refine mul_l (by omega) (by omega) ?_ | refine mul_r (by omega) (by omega) ?_)
  | ((with_reducible show rdDiv (.int _) (.int _) _ _); refine div_int (by first | decide | assumption | omega) (by first | decide | assumption | omega) ?_)
  | ((with_reducible show rdDivmod [.int _, .int _] _ _); refine dm_int (by first | decide | assumption | omega) (by first | decide | assumption | omega) ?_)
  | ((with_reducible show @ite _ (_ = true) _ _ _); first | refine ifYes (by first | with_reducible rfl | exact Bool.not_false | assumption) ?_ | refine ifNo (by first | with_reducible rfl | exact Bool.not_true | assumption) ?_)
  | ((with_reducible show ∃ _, _ ∧ _); refine ⟨_, celL_of (by bv_omega), ?_⟩)
  | ((with_reducible show ∃ _ _ _ _, _ ∧ _ ∧ _ ∧ _ ∧ _); refine ⟨_, _, _, _, rfl, rfl, by bv_omega, by rfl, ?_⟩)
  | ((with_reducible show (_ : Nat) ≤ sizeLine ∧ _); refine ⟨by rw [sizeLine_eq]; exact Nat.le_of_ble_eq_true rfl, ?_⟩))
local macro_rules | `(tactic| infer_instance) => `(tactic| ((repeat symm); try dsimp only))
local macro_rules | `(tactic| ac_rfl) => `(tactic| ((repeat (first | symm | ((with_reducible show rdMod (.int _) (.int _) _ _); refine mod_any (by first | decide | assumption | omega) ?_; intro _ _ _))); try dsimp only))
theorem crew_nodup {size : Int} {hs : List Host} (h : CrewOk size hs) : (hs.map (·.name)).Nodup := by
  unfold List.Nodup
  rw [List.pairwise_map, List.pairwise_iff_getElem]
  intro i j hi hj hij e
  exact (h.each j _ (List.getElem?_eq_getElem hj)).fresh _ (mem_take (List.getElem?_eq_getElem hi) hij) e
theorem merge_no {k : Key} : ∀ {kvs acc : List (Key × D)}, k ∉ kvs.map (·.1) → getK (mergeD acc kvs) k = getK acc k
  | [], _, _ => rfl
  | (k', v) :: r, acc, h => by
    show getK (mergeD (setK acc k' v) r) k = _
    rw [merge_no fun z => h (List.mem_cons_of_mem _ z), getK_set, if_neg]
    rintro rfl
    exact h List.mem_cons_self
theorem merge_at {k : Key} {v : D} : ∀ {kvs acc : List (Key × D)}, (kvs.map (·.1)).Nodup → (k, v) ∈ kvs → getK (mergeD acc kvs) k = some v
  | [], _, _, h => by simp at h
  | (k', v') :: r, acc, hn, h => by
    obtain ⟨h1, h2⟩ := List.nodup_cons.mp hn
    show getK (mergeD (setK acc k' v') r) k = _
    rcases List.mem_cons.mp h with e | h
    · cases e
      rw [merge_no h1, getK_set, if_pos rfl]
    · exact merge_at h2 h
def bayL (hs : List Host) : List (Key × D) := hs.map fun o => (Sum.inr o.name, D.str o.rack)
theorem bays_at {size : Int} {hs : List Host} (hc : CrewOk size hs) {x : Str} (hx : x ∈ hs.map (·.name)) : getK (mergeD [] (bayL hs)) (.inr x) = some (.str (rackOf hs x)) := by
  obtain ⟨o, ho, rfl⟩ := List.mem_map.mp hx
  refine merge_at ?_ ?_
  · unfold bayL
    rw [List.map_map]
    have := crew_nodup hc
    unfold List.Nodup at this ⊢
    rw [List.pairwise_map] at this ⊢
    exact this.imp fun {a b} hab e => hab (Sum.inr.inj e)
  · rw [crew_rack hc ho]
    exact List.mem_map.mpr ⟨o, ho, rfl⟩
theorem firsts_in {hs : List Host} {ns : List Str} : ∀ n, (firstsN hs ns n).length ≤ n ∧ ∀ x ∈ firstsN hs ns n, x ∈ ns
  | 0 => ⟨Nat.le_refl _, fun x hx => by simp [firstsN] at hx⟩
  | n + 1 => by
    have ih := firsts_in (hs := hs) (ns := ns) n
    unfold firstsN
    split
    · rename_i x e
      split
      · exact ⟨by omega, ih.2⟩
      · refine ⟨by rw [List.length_append, List.length_singleton]; omega, fun y hy => ?_⟩
        rcases List.mem_append.mp hy with hy | hy
        · exact ih.2 y hy
        · rw [List.mem_singleton.mp hy]; exact List.mem_of_getElem? e
    · exact ⟨by omega, ih.2⟩
theorem kp_new_racks_first (C : Addr) : Keeps N_new_racks_first 2 (sd_new_racks_first C) (db_new_racks_first C) := by
  rintro ds M q ex hl ⟨size, r, hs, ns, rfl, hc, h12, hin, h⟩
  show db_new_racks_first C _ [some (ringD C size r hs), some (strsT ns), none, none, none, none, none, none, none] M
  unfold db_new_racks_first
  infer_instance
  refine ⟨_, fs_ring, size, r, hs, rfl, ?_⟩
  infer_instance
  intro cd hcd
  have hf := hc.few
  refine dc_lst (fun i M' => ∃ s : List (Key × D), M' = mset M cd (.dc s) ∧ s = mergeD [] (bayL (hs.take i)) ∧ s.length ≤ i) ?_ ?_ _ ⟨[], rfl, rfl, Nat.le_refl _⟩
  · rintro M' ⟨s, rfl, es, _⟩
    rw [List.length_map, List.take_length] at es
    refine ⟨rfl, ?_⟩
    have tab : ∀ x : Str, x ∈ ns → getK s (.inr x) = some (.str (rackOf hs x)) := fun x hx => by rw [es]; exact bays_at hc (hin x hx)
    have hcd' : (mset M cd (.dc s)) cd = some (.dc s) := mset_same
    have hK0 : Kept M (mset M cd (.dc s)) := Kept.new hcd
    generalize mset M cd (.dc s) = M0 at *
    infer_instance
    intro cr hcr
    infer_instance
    intro cf hcf
    infer_instance
    intro co hco
    have n1 : cf ≠ cr := fun e => by rw [e, mset_same] at hcf; cases hcf
    have n2 : co ≠ cf := fun e => by rw [e, mset_same] at hco; cases hco
    have n3 : co ≠ cr := fun e => by rw [e, mset_ne (Ne.symm n1), mset_same] at hco; cases hco
    have mcf : M0 cf = none := by rw [mset_ne n1] at hcf; exact hcf
    have mco : M0 co = none := by rw [mset_ne n2, mset_ne n3] at hco; exact hco
    infer_instance
    refine for_lst (fun i env M' => ∃ (seen fs os : List Str) (w6 w7 w8 : Option D), env = [some (ringD C size r hs), some (strsT ns), some (.cel cd), some (.cel cr), some (.cel cf), some (.cel co), w6, w7, w8] ∧
      M' cr = some (.ls (seen.map D.str)) ∧ M' cf = some (.ls (fs.map D.str)) ∧ M' co = some (.ls (os.map D.str)) ∧ splitR hs [] [] [] ns = splitR hs seen fs os (ns.drop i) ∧ seen.length ≤ i ∧ fs.length ≤ i ∧ os.length ≤ i ∧ Kept M0 M') ?_ ?_ _ _
      ⟨[], [], [], _, _, _, rfl, by rw [mset_ne (Ne.symm n3), mset_ne (Ne.symm n1), mset_same]; rfl, by rw [mset_ne (Ne.symm n2), mset_same]; rfl, mset_same, rfl, Nat.le_refl _, Nat.le_refl _, Nat.le_refl _, ((Kept.new hcr).put mcf).put mco⟩
    · rintro env M' ⟨seen, fs, os, w5, w6, w7, rfl, hR, hF, hO, hS, l1, l2, l3, hK⟩
      refine ⟨rfl, ?_⟩
      rw [List.length_map] at l1 l2 l3 hS
      infer_instance
      refine add_lst (celL_of hF) (celL_of hO) (by rw [List.length_map, List.length_map, sizeLine_eq]; omega) ?_
      infer_instance
      refine ⟨_, _, rfl, rfl, ?_⟩
      have e : newRacks hs ns = fs ++ os := by
        unfold newRacks
        rw [hS, List.drop_length]
        rfl
      rw [← List.map_append, ← e]
      exact h M' (hK0.trans hK)
    · rintro i x env M' hx ⟨seen, fs, os, w5, w6, w7, rfl, hR, hF, hO, hS, l1, l2, l3, hK⟩ nx hnx
      refine ⟨rfl, ?_⟩
      rw [List.getElem?_map] at hx
      obtain ⟨y, hy, rfl⟩ := omap hx
      have hi := (List.getElem?_eq_some_iff.mp hy).1
      have ed : ns.drop i = y :: ns.drop (i + 1) := by
        obtain ⟨p, e⟩ := List.getElem?_eq_some_iff.mp hy
        rw [List.drop_eq_getElem_cons p, e]
      rw [ed] at hS
      infer_instance
      refine ⟨cd, s, .inr y, _, rfl, hK cd _ hcd', rfl, tab y (List.mem_of_getElem? hy), ?_⟩
      infer_instance
      refine in_str (xs := seen) (celL_of hR) ?_
      infer_instance
      refine ifD (fun hb => ?_) (fun hb => ?_)
      · infer_instance
        refine ⟨co, _, rfl, hO, ?_⟩
        infer_instance
        refine ⟨_, _, rfl, hO, by rw [List.length_map, sizeLine_eq]; omega, ?_⟩
        refine hnx _ _ ⟨seen, fs, os ++ [y], _, _, _, rfl, by rw [mset_ne (Ne.symm n3)]; exact hR, by rw [mset_ne (Ne.symm n2)]; exact hF, by rw [mset_same, List.map_append]; rfl, ?_, by omega, by omega, by rw [List.length_append, List.length_singleton]; omega, hK.put mco⟩
        rw [hS]
        show (if rackOf hs y ∈ seen then _ else _) = _
        rw [if_pos hb]
      · infer_instance
        refine ⟨cr, _, rfl, hR, ?_⟩
        infer_instance
        refine ⟨_, _, rfl, hR, by rw [List.length_map, sizeLine_eq]; omega, ?_⟩
        infer_instance
        refine ⟨cf, _, rfl, by rw [mset_ne n1]; exact hF, ?_⟩
        infer_instance
        refine ⟨_, _, rfl, by rw [mset_ne n1]; exact hF, by rw [List.length_map, sizeLine_eq]; omega, ?_⟩
        refine hnx _ _ ⟨seen ++ [rackOf hs y], fs ++ [y], os, _, _, _, rfl, by rw [mset_ne (Ne.symm n1), mset_same, List.map_append]; rfl, by rw [mset_same, List.map_append]; rfl, by rw [mset_ne n2, mset_ne n3]; exact hO, ?_, by rw [List.length_append, List.length_singleton]; omega, by rw [List.length_append, List.length_singleton]; omega, by omega, (hK.put hcr).put mcf⟩
        rw [hS]
        show (if rackOf hs y ∈ seen then _ else _) = _
        rw [if_neg hb]
  · rintro i x M' hx ⟨s, rfl, es, hsl⟩ nx hnx
    refine ⟨rfl, ?_⟩
    rw [List.getElem?_map] at hx
    obtain ⟨o, ho, rfl⟩ := omap hx
    have hi := (List.getElem?_eq_some_iff.mp ho).1
    infer_instance
    refine ⟨s, .inr o.name, rfl, mset_same, by rw [sizeLine_eq]; omega, hnx _ ⟨_, by rw [mset_mset], ?_, ?_⟩⟩
    · rw [es, List.take_succ, ho]
      unfold bayL
      rw [List.map_append]
      have mapp : ∀ (a b acc : List (Key × D)), mergeD acc (a ++ b) = mergeD (mergeD acc a) b := by
        intro a
        induction a with
        | nil => intro b acc; rfl
        | cons x a ih => intro b acc; exact ih b _
      rw [mapp]
      rfl
    · exact Nat.le_trans setK_len (by omega)
theorem kp_keepers_in (C : Addr) : Keeps N_keepers_in 2 (sd_keepers_in C) (db_keepers_in C) := by
  rintro ds M q ex hl ⟨size, r, hs, ns, rfl, hc, hr, h12, hin, h⟩
  show db_keepers_in C _ [some (ringD C size r hs), some (strsT ns), none] M
  unfold db_keepers_in
  have hsp : PyData.strOk r.spread = true := by
    rcases hr.s with e | e <;> rw [e] <;> decide +kernel
  obtain ⟨w, hwd⟩ := Int.eq_ofNat_of_zero_le (show 0 ≤ r.wide by have := hr.w; omega)
  have last : ∀ (xs : List Str) (M' : Mem), Kept M M' → keepersOf r hs ns = xs.take w → dRet (dSl rdSl (dVar 2) dNo (dPart (dProp C (sd_Ring_factor C) (dVar 0)))) { nx := fun _ M' => q .non M', rt := q, ex := fun _ => ex } [some (ringD C size r hs), some (strsT ns), some (strsT xs)] M' := by
    intro xs M' hK e
    infer_instance
    refine ⟨_, fs_ring, size, r, hs, rfl, ?_⟩
    rw [hwd]
    infer_instance
    refine sl_tup (n := w) ?_
    rw [← List.map_take, ← e]
    exact h M' hK
  infer_instance
  refine ⟨_, fs_ring, size, r, hs, rfl, ?_⟩
  infer_instance
  refine eq_str hsp (by decide +kernel) ?_
  infer_instance
  refine ifD (fun e => ?_) (fun e => ?_)
  · infer_instance
    exact ⟨size, r, hs, ns, rfl, hc, h12, hin, fun M' hK => last (newRacks hs ns) M' hK (by unfold keepersOf; rw [if_pos e, hwd]; rfl)⟩
  · refine ⟨_, rfl, ?_⟩
    exact last ns M (Kept.refl M) (by unfold keepersOf; rw [if_neg e, hwd]; rfl)
end R
set_option maxRecDepth 100000
set_option maxHeartbeats 1000000
namespace R
open PySem PySem.Spec PyProof.Rows L2 DL
local macro_rules | `(tactic| bv_omega) => `(tactic| first | assumption | exact mset_same)
local macro_rules | `(tactic| symm) => `(tactic| first
  | ((with_reducible show ∃ _, _ = _ ∧ _); refine ⟨_, rfl, ?_⟩)
  | ((with_reducible show _ = _ ∧ _); refine ⟨rfl, ?_⟩)
  | ((with_reducible show ∃ _ _, _ = _ ∧ _ = _ ∧ _); refine ⟨_, _, rfl, rfl, ?_⟩)
  | ((with_reducible show ∃ _ _, _ = _ ∧ _); refine ⟨_, _, rfl, ?_⟩)
  | ((with_reducible show ∃ _ _ _, _ = _ ∧ _); refine ⟨_, _, _, rfl, ?_⟩)
  | ((with_reducible show (_ ≤ _ ∧ _) ∧ _); refine ⟨by omega, ?_⟩)
  | with_reducible refine add_int ?_ | with_reducible refine sub_int ?_
  | with_reducible refine lt_int ?_ | with_reducible refine le_int ?_ | with_reducible refine gt_int ?_ | with_reducible refine ge_int ?_
  | with_reducible refine int_int ?_
  | with_reducible refine eq_int ?_ | with_reducible refine ne_int ?_
  | with_reducible refine len_tup ?_ | with_reducible refine len_lst ?_
  | ((with_reducible show rdIx (.cel _) (.int _) _ _); refine ix_cel (by bv_omega) (by rfl) ?_)
  | ((with_reducible show rdIx (.lst _) (.int _) _ _); refine ix_lst (by rfl) ?_)
  | ((with_reducible show rdIx (.tup _) (.int _) _ _); refine ix_tup (by rfl) ?_)
  | ((with_reducible show rdLen [.cel _] _ _); refine len_cel (by bv_omega) ?_)
  | ((with_reducible show rdMul (.int _) (.int _) _ _); first | refine mul_l (by decide) (by decide) ?_ | refine mul_r (by decide) (by decide) ?_ | refine mul_l (by omega) (by omega) ?_ | refine mul_r (by omega) (by omega) ?_)
  | ((with_reducible show rdDiv (.int _) (.int _) _ _); refine div_int (by first | decide | assumption | omega) (by first | decide | assumption | omega) ?_)
  | ((with_reducible show rdDivmod [.int _, .int _] _ _); refine dm_int (by first | decide | assumption | omega) (by first | decide | assumption | omega) ?_)
  | ((with_reducible show @ite _ (_ = true) _ _ _); first | refine ifYes (by first | with_reducible rfl | exact Bool.not_false | assumption) ?_ | refine ifNo (by first | with_reducible rfl | exact Bool.not_true | assumption) ?_)
  | ((with_reducible show ∃ _, _ ∧ _); refine ⟨_, celL_of (by bv_omega), ?_⟩)
  | ((with_reducible show ∃ _ _ _ _, _ ∧ _ ∧ _ ∧ _ ∧ _); refine ⟨_, _, _, _, rfl, rfl, by bv_omega, by rfl, ?_⟩)
  | ((with_reducible show (_ : Nat) ≤ sizeLine ∧ _); refine ⟨by rw [sizeLine_eq]; exact Nat.le_of_ble_eq_true rfl, ?_⟩))
local macro_rules | `(tactic| infer_instance) => `(tactic| ((repeat symm); try dsimp only))
local macro_rules | `(tactic| ac_rfl) => `(tactic| ((repeat (first | symm | ((with_reducible show rdMod (.int _) (.int _) _ _); refine mod_any (by first | decide | assumption | omega) ?_; intro _ _ _))); try dsimp only))
/-- all that splitR is at the i-th name -/
theorem split_inv {hs : List Host} {ns : List Str} : ∀ i, i ≤ ns.length → ∃ seen os, splitR hs [] [] [] ns = splitR hs seen (firstsN hs ns i) os (ns.drop i) ∧ (∀ x, x ∈ seen ↔ x ∈ (ns.take i).map (rackOf hs)) ∧ (ns.Nodup → os = (ns.take i).filter fun x => !decide (x ∈ firstsN hs ns i))
  | 0, _ => ⟨[], [], rfl, fun x => by simp, fun _ => by simp⟩
  | i + 1, hi => by
    obtain ⟨seen, os, e, h1, h2⟩ := split_inv (hs := hs) (ns := ns) i (by omega)
    have hlt : i < ns.length := by omega
    have hx : ns[i]? = some ns[i] := List.getElem?_eq_getElem hlt
    rw [List.drop_eq_getElem_cons hlt] at e
    have et : ns.take (i + 1) = ns.take i ++ [ns[i]] := by rw [List.take_succ, hx]; rfl
    have step : firstsN hs ns (i + 1) = if rackOf hs ns[i] ∈ (ns.take i).map (rackOf hs) then firstsN hs ns i else firstsN hs ns i ++ [ns[i]] := by
      show (match ns[i]? with | some x => _ | none => _) = _
      rw [hx]
    have hfr : ns.Nodup → ns[i] ∉ ns.take i := fun hn hm => by
      obtain ⟨a, ha⟩ := List.getElem?_of_mem hm
      have hal : a < i := by
        have := (List.getElem?_eq_some_iff.mp ha).1
        rw [List.length_take] at this; omega
      rw [List.getElem?_take, if_pos hal] at ha
      obtain ⟨p1, q1⟩ := List.getElem?_eq_some_iff.mp ha
      exact (List.pairwise_iff_getElem.mp hn a i p1 hlt hal) q1
    have hff : ∀ x ∈ firstsN hs ns i, x ∈ ns.take i := by
      clear e h1 h2 hx et step hfr
      induction i with
      | zero => intro x hx; simp [firstsN] at hx
      | succ j ih =>
        intro x hx
        have hj : j < ns.length := by omega
        have ej : ns.take (j + 1) = ns.take j ++ [ns[j]] := by rw [List.take_succ, List.getElem?_eq_getElem hj]; rfl
        rw [ej]
        unfold firstsN at hx
        rw [List.getElem?_eq_getElem hj] at hx
        dsimp only at hx
        split at hx
        · exact List.mem_append.mpr (.inl (ih (by omega) hj x hx))
        · rcases List.mem_append.mp hx with hx | hx
          · exact List.mem_append.mpr (.inl (ih (by omega) hj x hx))
          · exact List.mem_append.mpr (.inr hx)
    by_cases hb : rackOf hs ns[i] ∈ seen
    · rw [if_pos ((h1 _).mp hb)] at step
      refine ⟨seen, os ++ [ns[i]], ?_, fun x => ?_, fun hn => ?_⟩
      · rw [e, step]
        show (if rackOf hs ns[i] ∈ seen then _ else _) = _
        rw [if_pos hb]
      · rw [et, List.map_append, List.mem_append, ← h1]
        constructor
        · exact .inl
        · rintro (h | h)
          · exact h
          · rw [List.mem_singleton.mp h]; exact hb
      · rw [et, List.filter_append, h2 hn, step]
        have : ns[i] ∉ firstsN hs ns i := fun z => hfr hn (hff _ z)
        simp [this]
    · have hb2 : ¬ rackOf hs ns[i] ∈ (ns.take i).map (rackOf hs) := fun z => hb ((h1 _).mpr z)
      rw [if_neg hb2] at step
      refine ⟨seen ++ [rackOf hs ns[i]], os, ?_, fun x => ?_, fun hn => ?_⟩
      · rw [e, step]
        show (if rackOf hs ns[i] ∈ seen then _ else _) = _
        rw [if_neg hb]
      · rw [et, List.map_append, List.mem_append, List.mem_append, ← h1]
        rfl
      · rw [et, List.filter_append, h2 hn, step]
        have e1 : (ns.take i).filter (fun x => !decide (x ∈ firstsN hs ns i ++ [ns[i]])) = (ns.take i).filter (fun x => !decide (x ∈ firstsN hs ns i)) := by
          refine List.filter_congr fun x hx => ?_
          have : x ≠ ns[i] := fun z => hfr hn (z ▸ hx)
          simp [this]
        rw [e1]
        simp
theorem keep_same {r : Rule} {hs : List Host} {ns : List Str} (hr : RuleOk r) (hn : ns.Nodup) : keepL r hs ns = keepersOf r hs ns := by
  unfold keepL keepersOf
  rcases hr.s with e | e
  · rw [if_pos e, if_neg (by rw [e]; decide +kernel)]
  · rw [if_neg (by rw [e]; decide +kernel), if_pos e]
    obtain ⟨seen, os, e1, _, h2⟩ := split_inv (hs := hs) (ns := ns) ns.length (Nat.le_refl _)
    have h3 := h2 hn
    rw [List.take_length] at h3
    have e2 : newRacks hs ns = firstsN hs ns ns.length ++ os := by
      unfold newRacks
      rw [e1, List.drop_length]
      rfl
    rw [e2]
    generalize firstsN hs ns ns.length = fs at *
    by_cases h : r.wide.toNat ≤ fs.length
    · rw [List.take_append_of_le_length (by rw [List.length_take]; omega), List.take_append_of_le_length h, List.take_take, Nat.min_self]
    · have ht : fs.take r.wide.toNat = fs := List.take_of_length_le (by omega)
      rw [ht, ← h3]
/-- the way of the host with this name -/
theorem way_uniq {size p : Int} {ms : List Int} {a b : Int} (h : IsWay size p ms a) (h' : IsWay size p ms b) : a = b := by
  have := h.2 b h'.1
  have := h'.2 a h.1
  omega
theorem sorted_uniq {α : Type} {W : α → Int} : ∀ {xs ys : List α}, xs.Perm ys → xs.Pairwise (fun a b => W a < W b) → ys.Pairwise (fun a b => W a < W b) → xs = ys
  | [], ys, hp, _, _ => (List.nil_perm.mp hp).symm
  | x :: xs, [], hp, _, _ => absurd hp.length_eq (by simp)
  | x :: xs, y :: ys, hp, h1, h2 => by
    obtain ⟨a1, a2⟩ := List.pairwise_cons.mp h1
    obtain ⟨b1, b2⟩ := List.pairwise_cons.mp h2
    have e : x = y := by
      have mx : x ∈ y :: ys := hp.mem_iff.mp List.mem_cons_self
      have my : y ∈ x :: xs := hp.mem_iff.mpr List.mem_cons_self
      rcases List.mem_cons.mp mx with e | mx
      · exact e
      · rcases List.mem_cons.mp my with e | my
        · exact e.symm
        · have := b1 x mx
          have := a1 y my
          omega
    subst e
    rw [sorted_uniq (List.Perm.cons_inv hp) a2 b2]
end R
set_option maxRecDepth 100000
set_option maxHeartbeats 1000000
namespace R
open PySem PySem.Spec PyProof.Rows L2 DL
local macro_rules | `(tactic| bv_omega) => `(tactic| first | assumption | exact mset_same)
local macro_rules | `(tactic| symm) => `(tactic| first
  | ((with_reducible show ∃ _, _ = _ ∧ _); refine ⟨_, rfl, ?_⟩)
  | ((with_reducible show _ = _ ∧ _); refine ⟨rfl, ?_⟩)
  | ((with_reducible show ∃ _ _, _ = _ ∧ _ = _ ∧ _); refine ⟨_, _, rfl, rfl, ?_⟩)
  | ((with_reducible show ∃ _ _, _ = _ ∧ _); refine ⟨_, _, rfl, ?_⟩)
  | ((with_reducible show ∃ _ _ _, _ = _ ∧ _); refine ⟨_, _, _, rfl, ?_⟩)
  | ((with_reducible show (_ ≤ _ ∧ _) ∧ _); refine ⟨by omega, ?_⟩)
  | with_reducible refine add_int ?_ | with_reducible refine sub_int ?_
  | with_reducible refine lt_int ?_ | with_reducible refine le_int ?_ | with_reducible refine gt_int ?_ | with_reducible refine ge_int ?_
  | with_reducible refine int_int ?_
  | with_reducible refine eq_int ?_ | with_reducible refine ne_int ?_
  | with_reducible refine len_tup ?_ | with_reducible refine len_lst ?_
  | ((with_reducible show rdIx (.cel _) (.int _) _ _); refine ix_cel (by bv_omega) (by rfl) ?_)
  | ((with_reducible show rdIx (.lst _) (.int _) _ _); refine ix_lst (by rfl) ?_)
  | ((with_reducible show rdIx (.tup _) (.int _) _ _); refine ix_tup (by rfl) ?_)
  | ((with_reducible show rdLen [.cel _] _ _); refine len_cel (by bv_omega) ?_)
  | ((with_reducible show rdMul (.int _) (.int _) _ _); first | refine mul_l (by decide) (by decide) ?_ | refine mul_r (by decide) (by decide) ?_ | refine mul_l (by omega) (by omega) ?_ | refine mul_r (by omega) (by omega) ?_)
  | ((with_reducible show rdDiv (.int _) (.int _) _ _); refine div_int (by first | decide | assumption | omega) (by first | decide | assumption | omega) ?_)
  | ((with_reducible show rdDivmod [.int _, .int _] _ _); refine dm_int (by first | decide | assumption | omega) (by first | decide | assumption | omega) ?_)
  | ((with_reducible show @ite _ (_ = true) _ _ _); first | refine ifYes (by first | with_reducible rfl | exact Bool.not_false | assumption) ?_ | refine ifNo (by first | with_reducible rfl | exact Bool.not_true | assumption) ?_)
  | ((with_reducible show ∃ _, _ ∧ _); refine ⟨_, celL_of (by bv_omega), ?_⟩)
  | ((with_reducible show ∃ _ _ _ _, _ ∧ _ ∧ _ ∧ _ ∧ _); refine ⟨_, _, _, _, rfl, rfl, by bv_omega, by rfl, ?_⟩)
  | ((with_reducible show (_ : Nat) ≤ sizeLine ∧ _); refine ⟨by rw [sizeLine_eq]; exact Nat.le_of_ble_eq_true rfl, ?_⟩))
local macro_rules | `(tactic| infer_instance) => `(tactic| ((repeat symm); try dsimp only))
local macro_rules | `(tactic| ac_rfl) => `(tactic| ((repeat (first | symm | ((with_reducible show rdMod (.int _) (.int _) _ _); refine mod_any (by first | decide | assumption | omega) ?_; intro _ _ _))); try dsimp only))
theorem name_repr {x : Str} (h : nameB x = true) : (reprText x).length ≤ 82 := by
  have h8 := name_len h
  have := StrLaws.reprText_len x (fun c hc => by
    have := name_ok h
    unfold PyData.strOk at this
    rw [← Array.all_toList, List.all_eq_true] at this
    have := of_decide_eq_true (this c hc)
    omega)
  omega
theorem keep_in {r : Rule} {hs : List Host} {ns : List Str} (hr : RuleOk r) : (keepL r hs ns).length ≤ 5 ∧ ∀ x ∈ keepL r hs ns, x ∈ ns := by
  have hw := hr.w
  unfold keepL
  split
  · exact ⟨by rw [List.length_take]; omega, fun x hx => List.mem_of_mem_take hx⟩
  · refine ⟨by rw [List.length_take]; omega, fun x hx => ?_⟩
    rcases List.mem_append.mp (List.mem_of_mem_take hx) with hx | hx
    · exact (firsts_in ns.length).2 x (List.mem_of_mem_take hx)
    · exact (List.mem_filter.mp hx).1
theorem walk_uniq {size p : Int} {hs : List Host} {ns ns' : List Str} (hc : CrewOk size hs) (h : WalkOf size p hs ns) (h' : WalkOf size p hs ns') : ns = ns' := by
  obtain ⟨ws, s1, rfl, p1, a1⟩ := h
  obtain ⟨ws', s2, rfl, p2, a2⟩ := h'
  have hnd := crew_nodup hc
  have key : ∀ {us us' : List (Int × Str)}, (us.map (·.2)).Nodup → (us'.map (·.2)).Nodup → (∀ a ∈ us, ∃ h ∈ hs, h.name = a.2 ∧ IsWay size p h.marks a.1) → (∀ a ∈ us', ∃ h ∈ hs, h.name = a.2 ∧ IsWay size p h.marks a.1) → (∀ x, x ∈ us.map (·.2) → x ∈ us'.map (·.2)) → ∀ a ∈ us, a ∈ us' := by
    intro us us' n1 n2 b1 b2 hm a ha
    obtain ⟨b, hb, eb⟩ := List.mem_map.mp (hm a.2 (List.mem_map.mpr ⟨a, ha, rfl⟩))
    obtain ⟨o, ho, eo, wo⟩ := b1 a ha
    obtain ⟨o', ho', eo', wo'⟩ := b2 b hb
    have : o = o' := crew_inj hc ho ho' (by rw [eo, eo', eb])
    subst this
    have e1 := way_uniq wo wo'
    have : a = b := Prod.ext e1 eb.symm
    rw [this]; exact hb
  have n1 : (ws.map (·.2)).Nodup := p1.nodup_iff.mpr hnd
  have n2 : (ws'.map (·.2)).Nodup := p2.nodup_iff.mpr hnd
  have m1 := key n1 n2 a1 a2 (fun x hx => p2.mem_iff.mpr (p1.mem_iff.mp hx))
  have m2 := key n2 n1 a2 a1 (fun x hx => p1.mem_iff.mpr (p2.mem_iff.mp hx))
  have nd : ∀ {us : List (Int × Str)}, (us.map (·.2)).Nodup → us.Nodup := fun h => by
    unfold List.Nodup at h ⊢
    rw [List.pairwise_map] at h
    exact h.imp fun hab e => hab (by rw [e])
  have strict : ∀ {us : List (Int × Str)}, (us.map (·.2)).Nodup → us.Pairwise (fun a b => a.1 ≤ b.1) → (∀ a ∈ us, ∃ h ∈ hs, h.name = a.2 ∧ IsWay size p h.marks a.1) → us.Pairwise (fun a b => a.1 < b.1) := by
    intro us hn hs2 ha
    unfold List.Nodup at hn
    rw [List.pairwise_map] at hn
    have hb := hn.and hs2
    refine List.Pairwise.imp_of_mem (fun {a b} ma mb ⟨h1, h2⟩ => ?_) hb
    rcases Int.lt_or_eq_of_le h2 with h | h
    · exact h
    · exfalso
      obtain ⟨o, ho, eo, wo⟩ := ha a ma
      obtain ⟨o', ho', eo', wo'⟩ := ha b mb
      rw [h] at wo
      have := way_apart hc ho ho' wo wo'
      exact h1 (by rw [← eo, ← eo', this])
  have pm : ws.Perm ws' := (List.perm_ext_iff_of_nodup (nd n1) (nd n2)).mpr fun a => ⟨m1 a, m2 a⟩
  rw [sorted_uniq (W := fun a : Int × Str => a.1) pm (strict n1 s1 a1) (strict n2 s2 a2)]
theorem walk_len {size p : Int} {hs : List Host} {ns : List Str} (h : WalkOf size p hs ns) : ns.length = hs.length := by
  obtain ⟨ws, _, rfl, pm, _⟩ := h
  rw [pm.length_eq, List.length_map]
theorem walk_in {size p : Int} {hs : List Host} {ns : List Str} (h : WalkOf size p hs ns) : ∀ x ∈ ns, x ∈ hs.map (·.name) := by
  obtain ⟨ws, _, rfl, pm, _⟩ := h
  exact fun x hx => pm.mem_iff.mp hx
theorem walk_nd {size p : Int} {hs : List Host} {ns : List Str} (hc : CrewOk size hs) (h : WalkOf size p hs ns) : ns.Nodup := by
  obtain ⟨ws, _, rfl, pm, _⟩ := h
  exact pm.nodup_iff.mpr (crew_nodup hc)
end R
set_option maxRecDepth 100000
set_option maxHeartbeats 1000000
namespace R
open PySem PySem.Spec PyProof.Rows L2 DL
local macro_rules | `(tactic| bv_omega) => `(tactic| first | assumption | exact mset_same)
local macro_rules | `(tactic| symm) => `(tactic| first
  | ((with_reducible show ∃ _, _ = _ ∧ _); refine ⟨_, rfl, ?_⟩)
  | ((with_reducible show _ = _ ∧ _); refine ⟨rfl, ?_⟩)
  | ((with_reducible show ∃ _ _, _ = _ ∧ _ = _ ∧ _); refine ⟨_, _, rfl, rfl, ?_⟩)
  | ((with_reducible show ∃ _ _, _ = _ ∧ _); refine ⟨_, _, rfl, ?_⟩)
  | ((with_reducible show ∃ _ _ _, _ = _ ∧ _); refine ⟨_, _, _, rfl, ?_⟩)
  | ((with_reducible show (_ ≤ _ ∧ _) ∧ _); refine ⟨by omega, ?_⟩)
  | with_reducible refine add_int ?_ | with_reducible refine sub_int ?_
  | with_reducible refine lt_int ?_ | with_reducible refine le_int ?_ | with_reducible refine gt_int ?_ | with_reducible refine ge_int ?_
  | with_reducible refine int_int ?_
  | with_reducible refine eq_int ?_ | with_reducible refine ne_int ?_
  | with_reducible refine len_tup ?_ | with_reducible refine len_lst ?_
  | ((with_reducible show rdIx (.cel _) (.int _) _ _); refine ix_cel (by bv_omega) (by rfl) ?_)
  | ((with_reducible show rdIx (.lst _) (.int _) _ _); refine ix_lst (by rfl) ?_)
  | ((with_reducible show rdIx (.tup _) (.int _) _ _); refine ix_tup (by rfl) ?_)
  | ((with_reducible show rdLen [.cel _] _ _); refine len_cel (by bv_omega) ?_)
  | ((with_reducible show rdMul (.int _) (.int _) _ _); first | refine mul_l (by decide) (by decide) ?_ | refine mul_r (by decide) (by decide) ?_ | refine mul_l (by omega) (by omega) ?_ | refine mul_r (by omega) (by omega) ?_)
  | ((with_reducible show rdDiv (.int _) (.int _) _ _); refine div_int (by first | decide | assumption | omega) (by first | decide | assumption | omega) ?_)
  | ((with_reducible show rdDivmod [.int _, .int _] _ _); refine dm_int (by first | decide | assumption | omega) (by first | decide | assumption | omega) ?_)
  | ((with_reducible show @ite _ (_ = true) _ _ _); first | refine ifYes (by first | with_reducible rfl | exact Bool.not_false | assumption) ?_ | refine ifNo (by first | with_reducible rfl | exact Bool.not_true | assumption) ?_)
  | ((with_reducible show ∃ _, _ ∧ _); refine ⟨_, celL_of (by bv_omega), ?_⟩)
  | ((with_reducible show ∃ _ _ _ _, _ ∧ _ ∧ _ ∧ _ ∧ _); refine ⟨_, _, _, _, rfl, rfl, by bv_omega, by rfl, ?_⟩)
  | ((with_reducible show (_ : Nat) ≤ sizeLine ∧ _); refine ⟨by rw [sizeLine_eq]; exact Nat.le_of_ble_eq_true rfl, ?_⟩))
local macro_rules | `(tactic| infer_instance) => `(tactic| ((repeat symm); try dsimp only))
local macro_rules | `(tactic| ac_rfl) => `(tactic| ((repeat (first | symm | ((with_reducible show rdMod (.int _) (.int _) _ _); refine mod_any (by first | decide | assumption | omega) ?_; intro _ _ _))); try dsimp only))
theorem rising_pw : ∀ {p : Str} {l : List Str}, PyProof.Rows.risingS p l = true → (p :: l).Pairwise (fun a b => ¬ b.cps.toList < a.cps.toList)
  | p, [], _ => by simp
  | p, x :: r, h => by
    have h' : (!PySem.Spec.ltCps x.cps.toList p.cps.toList && PyProof.Rows.risingS x r) = true := h
    rw [Bool.and_eq_true] at h'
    obtain ⟨h1, h2⟩ := h'
    have h3 : ¬ x.cps.toList < p.cps.toList := by
      rw [PyProof.Rows.ltCps_eq] at h1
      simpa using h1
    have ih := rising_pw h2
    refine List.pairwise_cons.mpr ⟨fun y hy => ?_, ih⟩
    rcases List.mem_cons.mp hy with rfl | hy
    · exact h3
    · have h4 := (List.pairwise_cons.mp ih).1 y hy
      intro h5
      have a1 : p.cps.toList ≤ x.cps.toList := List.not_lt.mp h3
      have a2 : x.cps.toList ≤ y.cps.toList := List.not_lt.mp h4
      have a3 := List.le_trans a1 a2
      exact absurd h5 (List.not_lt.mpr a3)
theorem sorted_pw : ∀ {l : List Str}, PyProof.Rows.sortedS l = true → l.Pairwise (fun a b => ¬ b.cps.toList < a.cps.toList)
  | [], _ => .nil
  | x :: r, h => rising_pw h
theorem perm_pw_eq {α : Type} {R : α → α → Prop} (anti : ∀ a b, R a b → R b a → a = b) : ∀ {xs ys : List α}, xs.Perm ys → xs.Pairwise R → ys.Pairwise R → xs = ys
  | [], ys, hp, _, _ => (List.nil_perm.mp hp).symm
  | x :: xs, [], hp, _, _ => absurd hp.length_eq (by simp)
  | x :: xs, y :: ys, hp, h1, h2 => by
    obtain ⟨a1, b1⟩ := List.pairwise_cons.mp h1
    obtain ⟨a2, b2⟩ := List.pairwise_cons.mp h2
    have hx : x ∈ y :: ys := hp.mem_iff.mp (List.mem_cons_self ..)
    have hy : y ∈ x :: xs := hp.mem_iff.mpr (List.mem_cons_self ..)
    have e : x = y := by
      rcases List.mem_cons.mp hx with e | hx
      · exact e
      · rcases List.mem_cons.mp hy with e | hy
        · exact e.symm
        · exact anti x y (a1 y hy) (a2 x hx)
    subst e
    rw [perm_pw_eq anti ((List.perm_cons x).mp hp) b1 b2]
theorem sortedS_uniq {xs ys : List Str} (hp : xs.Perm ys) (h1 : PyProof.Rows.sortedS xs = true) (h2 : PyProof.Rows.sortedS ys = true) : xs = ys :=
  perm_pw_eq (fun a b h h' => str_ext (List.le_antisymm (List.not_lt.mp h) (List.not_lt.mp h'))) hp (sorted_pw h1) (sorted_pw h2)
end R
set_option maxRecDepth 100000
namespace R
open PySem PySem.Spec PyProof.Rows L2 DL
abbrev N_Ring_names : List Str := ["self", "host"]
def db_Ring_names (C : Addr) : DS :=
    (dRet (dCB rdTuple (dCons (dCB rdSortS (dCons (dLc (dIter (dFld C "_hosts" (dVar 0))) (gdName 1) dYes (dOp rdIx (dVar 1) (dC (.int 0))) [1]) dNil)) dNil)))
abbrev N_Ring___contains__ : List Str := ["self", "x"]
def db_Ring___contains__ (C : Addr) : DS :=
    (dRet (dCall 2 (sd_is_word_of C) (dCons (dVar 1) (dCons (dProp C (sd_Ring_names C) (dVar 0)) dNil))))
abbrev N_check_name : List Str := ["ring", "name"]
def db_check_name (C : Addr) : DS :=
    (dIfS (dTst (dOp (rdInO true C (sd_Ring___contains__ C)) (dVar 1) (dVar 0))) dNever dNext)
end R
set_option maxRecDepth 100000
set_option maxHeartbeats 1000000
namespace R
open PySem PySem.Spec PyProof.Rows L2 DL
local macro_rules | `(tactic| bv_omega) => `(tactic| first | assumption | exact mset_same)
local macro_rules | `(tactic| symm) => `(tactic| first
  | ((with_reducible show ∃ _, _ = _ ∧ _); refine ⟨_, rfl, ?_⟩)
  | ((with_reducible show _ = _ ∧ _); refine ⟨rfl, ?_⟩)
  | ((with_reducible show ∃ _ _, _ = _ ∧ _ = _ ∧ _); refine ⟨_, _, rfl, rfl, ?_⟩)
  | ((with_reducible show ∃ _ _, _ = _ ∧ _); refine ⟨_, _, rfl, ?_⟩)
  | ((with_reducible show ∃ _ _ _, _ = _ ∧ _); refine ⟨_, _, _, rfl, ?_⟩)
  | ((with_reducible show (_ ≤ _ ∧ _) ∧ _); refine ⟨by omega, ?_⟩)
  | with_reducible refine add_int ?_ | with_reducible refine sub_int ?_
  | with_reducible refine lt_int ?_ | with_reducible refine le_int ?_ | with_reducible refine gt_int ?_ | with_reducible refine ge_int ?_
  | with_reducible refine int_int ?_
  | with_reducible refine eq_int ?_ | with_reducible refine ne_int ?_
  | with_reducible refine len_tup ?_ | with_reducible refine len_lst ?_
  | ((with_reducible show rdIx (.cel _) (.int _) _ _); refine ix_cel (by bv_omega) (by rfl) ?_)
  | ((with_reducible show rdIx (.lst _) (.int _) _ _); refine ix_lst (by rfl) ?_)
  | ((with_reducible show rdIx (.tup _) (.int _) _ _); refine ix_tup (by rfl) ?_)
  | ((with_reducible show rdLen [.cel _] _ _); refine len_cel (by bv_omega) ?_)
  | ((with_reducible show rdMul (.int _) (.int _) _ _); first | refine mul_l (by decide) (by decide) ?_ | refine mul_r (by decide) (by decide) ?_ | refine mul_l (by omega) (by omega) ?_ | refine mul_r (by omega) (by omega) ?_)
  | ((with_reducible show rdDiv (.int _) (.int _) _ _); refine div_int (by first | decide | assumption | omega) (by first | decide | assumption | omega) ?_)
  | ((with_reducible show rdDivmod [.int _, .int _] _ _); refine dm_int (by first | decide | assumption | omega) (by first | decide | assumption | omega) ?_)
  | ((with_reducible show @ite _ (_ = true) _ _ _); first | refine ifYes (by first | with_reducible rfl | exact Bool.not_false | assumption) ?_ | refine ifNo (by first | with_reducible rfl | exact Bool.not_true | assumption) ?_)
  | ((with_reducible show ∃ _, _ ∧ _); refine ⟨_, celL_of (by bv_omega), ?_⟩)
  | ((with_reducible show ∃ _ _ _ _, _ ∧ _ ∧ _ ∧ _ ∧ _); refine ⟨_, _, _, _, rfl, rfl, by bv_omega, by rfl, ?_⟩)
  | ((with_reducible show (_ : Nat) ≤ sizeLine ∧ _); refine ⟨by rw [sizeLine_eq]; exact Nat.le_of_ble_eq_true rfl, ?_⟩))
local macro_rules | `(tactic| infer_instance) => `(tactic| ((repeat symm); try dsimp only))
local macro_rules | `(tactic| ac_rfl) => `(tactic| ((repeat (first | symm | ((with_reducible show rdMod (.int _) (.int _) _ _); refine mod_any (by first | decide | assumption | omega) ?_; intro _ _ _))); try dsimp only))
def Apart (a b : Host) : Prop := a.name ≠ b.name ∧ ∀ m ∈ b.marks, m ∉ a.marks
theorem Apart.symm {a b : Host} (h : Apart a b) : Apart b a := ⟨Ne.symm h.1, fun m hm hb => h.2 m hb hm⟩
theorem crew_of {size : Int} {hs : List Host} (ne : hs ≠ []) (few : hs.length ≤ 12) (ht : ∀ h ∈ hs, HostT size h) (hp : hs.Pairwise Apart) : CrewOk size hs := by
  refine ⟨ne, few, fun i h hi => ?_⟩
  obtain ⟨hl, e⟩ := List.getElem?_eq_some_iff.mp hi
  have hT := ht h (List.mem_of_getElem? hi)
  have key : ∀ o ∈ hs.take i, Apart o h := fun o ho => by
    obtain ⟨j, hj, rfl⟩ := List.mem_iff_getElem.mp ho
    rw [List.length_take] at hj
    rw [List.getElem_take, ← e]
    exact List.pairwise_iff_getElem.mp hp j i (by omega) hl (by omega)
  exact ⟨hT.name, hT.rack, fun o ho => (key o ho).1, hT.marks, fun o ho m hm => (key o ho).2 m hm⟩
theorem crew_pw {size : Int} {hs : List Host} (hc : CrewOk size hs) : hs.Pairwise Apart := by
  rw [List.pairwise_iff_getElem]
  intro i j hi hj hij
  have h := hc.each j hs[j] (List.getElem?_eq_getElem hj)
  have hm : hs[i] ∈ hs.take j := by
    rw [List.mem_iff_getElem]
    exact ⟨i, by rw [List.length_take]; omega, by rw [List.getElem_take]⟩
  exact ⟨h.fresh _ hm, h.free _ hm⟩
theorem kp_Ring_names (C : Addr) : Keeps N_Ring_names 1 (sd_Ring_names C) (db_Ring_names C) := by
  rintro ds M q ex hl ⟨size, r, hs, rfl, hf, h⟩
  show db_Ring_names C _ [some (ringD C size r hs), none] M
  unfold db_Ring_names
  infer_instance
  refine fld_ring lk_hosts ?_
  infer_instance
  intro c hcn
  refine lc_pure (fun _ => true) (fun d => match d with | .tup (x :: _) => x | d => d) hcn (by rw [List.length_map, sizeLine_eq]; omega) (fun _ => rfl) (fun y hy acc hz nx hyes _ => ?_) ?_
  · obtain ⟨o, ho, rfl⟩ := List.mem_map.mp hy
    infer_instance
    exact acc_put hz (hyes rfl)
  · have e : (((hs.map hostD).filter fun _ => true).map fun d => match d with | .tup (x :: _) => x | d => d) = (hs.map (·.name)).map D.str := by
      rw [List.filter_eq_self.mpr fun _ _ => rfl, List.map_map, List.map_map]
      rfl
    rw [e]
    infer_instance
    refine ⟨_, _, hs.map (·.name), rfl, rfl, DL.strs_map _, by rw [List.length_map]; omega, fun ys hp ho => ?_⟩
    infer_instance
    exact ⟨_, _, rfl, rfl, h ys hp ho⟩
theorem kp_Ring___contains__ (C : Addr) : Keeps N_Ring___contains__ 2 (sd_Ring___contains__ C) (db_Ring___contains__ C) := by
  rintro ds M q ex hl ⟨size, r, hs, d, rfl, hf, h⟩
  show db_Ring___contains__ C _ [some (ringD C size r hs), some d] M
  unfold db_Ring___contains__
  infer_instance
  refine ⟨_, fs_ring, size, r, hs, rfl, hf, fun ys hp ho => ?_⟩
  infer_instance
  rcases h with ⟨x, rfl, h⟩ | ⟨t, ht, hn, h⟩
  · refine .inl ⟨x, ys, rfl, ?_⟩
    rw [show decide (x ∈ ys) = decide (x ∈ hs.map (·.name)) from decide_eq_decide.mpr hp.mem_iff]
    exact h
  · exact .inr ⟨d, ys, t, rfl, ht, hn, h⟩
theorem kp_check_name (C : Addr) : Keeps N_check_name 2 (sd_check_name C) (db_check_name C) := by
  rintro ds M q ex hl ⟨size, r, hs, x, rfl, hf, hx, h⟩
  show db_check_name C _ [some (ringD C size r hs), some (.str x)] M
  unfold db_check_name
  infer_instance
  refine ⟨_, fs_ring, size, r, hs, _, rfl, hf, .inl ⟨x, rfl, ?_⟩⟩
  rw [decide_eq_true hx]
  infer_instance
  exact h
end R
set_option maxRecDepth 100000
set_option maxHeartbeats 1000000
namespace R
open PySem PySem.Spec PyProof.Rows L2 DL
local macro_rules | `(tactic| bv_omega) => `(tactic| first | assumption | exact mset_same)
local macro_rules | `(tactic| symm) => `(tactic| first
  | ((with_reducible show ∃ _, _ = _ ∧ _); refine ⟨_, rfl, ?_⟩)
  | ((with_reducible show _ = _ ∧ _); refine ⟨rfl, ?_⟩)
  | ((with_reducible show ∃ _ _, _ = _ ∧ _ = _ ∧ _); refine ⟨_, _, rfl, rfl, ?_⟩)
  | ((with_reducible show ∃ _ _, _ = _ ∧ _); refine ⟨_, _, rfl, ?_⟩)
  | ((with_reducible show ∃ _ _ _, _ = _ ∧ _); refine ⟨_, _, _, rfl, ?_⟩)
  | ((with_reducible show (_ ≤ _ ∧ _) ∧ _); refine ⟨by omega, ?_⟩)
  | with_reducible refine add_int ?_ | with_reducible refine sub_int ?_
  | with_reducible refine lt_int ?_ | with_reducible refine le_int ?_ | with_reducible refine gt_int ?_ | with_reducible refine ge_int ?_
  | with_reducible refine int_int ?_
  | with_reducible refine eq_int ?_ | with_reducible refine ne_int ?_
  | with_reducible refine len_tup ?_ | with_reducible refine len_lst ?_
  | ((with_reducible show rdIx (.cel _) (.int _) _ _); refine ix_cel (by bv_omega) (by rfl) ?_)
  | ((with_reducible show rdIx (.lst _) (.int _) _ _); refine ix_lst (by rfl) ?_)
  | ((with_reducible show rdIx (.tup _) (.int _) _ _); refine ix_tup (by rfl) ?_)
  | ((with_reducible show rdLen [.cel _] _ _); refine len_cel (by bv_omega) ?_)
  | ((with_reducible show rdMul (.int _) (.int _) _ _); first | refine mul_l (by decide) (by decide) ?_ | refine mul_r (by decide) (by decide) ?_ | refine mul_l (by omega) (by omega) ?_ | refine mul_r (by omega) (by omega) ?_)
  | ((with_reducible show rdDiv (.int _) (.int _) _ _); refine div_int (by first | decide | assumption | omega) (by first | decide | assumption | omega) ?_)
  | ((with_reducible show rdDivmod [.int _, .int _] _ _); refine dm_int (by first | decide | assumption | omega) (by first | decide | assumption | omega) ?_)
  | ((with_reducible show @ite _ (_ = true) _ _ _); first | refine ifYes (by first | with_reducible rfl | exact Bool.not_false | assumption) ?_ | refine ifNo (by first | with_reducible rfl | exact Bool.not_true | assumption) ?_)
  | ((with_reducible show ∃ _, _ ∧ _); refine ⟨_, celL_of (by bv_omega), ?_⟩)
  | ((with_reducible show ∃ _ _ _ _, _ ∧ _ ∧ _ ∧ _ ∧ _); refine ⟨_, _, _, _, rfl, rfl, by bv_omega, by rfl, ?_⟩)
  | ((with_reducible show (_ : Nat) ≤ sizeLine ∧ _); refine ⟨by rw [sizeLine_eq]; exact Nat.le_of_ble_eq_true rfl, ?_⟩))
local macro_rules | `(tactic| infer_instance) => `(tactic| ((repeat symm); try dsimp only))
local macro_rules | `(tactic| ac_rfl) => `(tactic| ((repeat (first | symm | ((with_reducible show rdMod (.int _) (.int _) _ _); refine mod_any (by first | decide | assumption | omega) ?_; intro _ _ _))); try dsimp only))
end R
set_option maxRecDepth 100000
set_option maxHeartbeats 1000000
namespace R
open PySem PySem.Spec PyProof.Rows L2 DL
local macro_rules | `(tactic| bv_omega) => `(tactic| first | assumption | exact mset_same)
local macro_rules | `(tactic| symm) => `(tactic| first
  | ((with_reducible show ∃ _, _ = _ ∧ _); refine ⟨_, rfl, ?_⟩)
  | ((with_reducible show _ = _ ∧ _); refine ⟨rfl, ?_⟩)
  | ((with_reducible show ∃ _ _, _ = _ ∧ _ = _ ∧ _); refine ⟨_, _, rfl, rfl, ?_⟩)
  | ((with_reducible show ∃ _ _, _ = _ ∧ _); refine ⟨_, _, rfl, ?_⟩)
  | ((with_reducible show ∃ _ _ _, _ = _ ∧ _); refine ⟨_, _, _, rfl, ?_⟩)
  | ((with_reducible show (_ ≤ _ ∧ _) ∧ _); refine ⟨by omega, ?_⟩)
  | with_reducible refine add_int ?_ | with_reducible refine sub_int ?_
  | with_reducible refine lt_int ?_ | with_reducible refine le_int ?_ | with_reducible refine gt_int ?_ | with_reducible refine ge_int ?_
  | with_reducible refine int_int ?_
  | with_reducible refine eq_int ?_ | with_reducible refine ne_int ?_
  | with_reducible refine len_tup ?_ | with_reducible refine len_lst ?_
  | ((with_reducible show rdIx (.cel _) (.int _) _ _); refine ix_cel (by bv_omega) (by rfl) ?_)
  | ((with_reducible show rdIx (.lst _) (.int _) _ _); refine ix_lst (by rfl) ?_)
  | ((with_reducible show rdIx (.tup _) (.int _) _ _); refine ix_tup (by rfl) ?_)
  | ((with_reducible show rdLen [.cel _] _ _); refine len_cel (by bv_omega) ?_)
  | ((with_reducible show rdMul (.int _) (.int _) _ _); first | refine mul_l (by decide) (by decide) ?_ | refine mul_r (by decide) (by decide) ?_ | refine mul_l (by omega) (by omega) ?_ | refine mul_r (by omega) (by omega) ?_)
  | ((with_reducible show rdDiv (.int _) (.int _) _ _); refine div_int (by first | decide | assumption | omega) (by first | decide | assumption | omega) ?_)
  | ((with_reducible show rdDivmod [.int _, .int _] _ _); refine dm_int (by first | decide | assumption | omega) (by first | decide | assumption | omega) ?_)
  | ((with_reducible show @ite _ (_ = true) _ _ _); first | refine ifYes (by first | with_reducible rfl | exact Bool.not_false | assumption) ?_ | refine ifNo (by first | with_reducible rfl | exact Bool.not_true | assumption) ?_)
  | ((with_reducible show ∃ _, _ ∧ _); refine ⟨_, celL_of (by bv_omega), ?_⟩)
  | ((with_reducible show ∃ _ _ _ _, _ ∧ _ ∧ _ ∧ _ ∧ _); refine ⟨_, _, _, _, rfl, rfl, by bv_omega, by rfl, ?_⟩)
  | ((with_reducible show (_ : Nat) ≤ sizeLine ∧ _); refine ⟨by rw [sizeLine_eq]; exact Nat.le_of_ble_eq_true rfl, ?_⟩))
local macro_rules | `(tactic| infer_instance) => `(tactic| ((repeat symm); try dsimp only))
local macro_rules | `(tactic| ac_rfl) => `(tactic| ((repeat (first | symm | ((with_reducible show rdMod (.int _) (.int _) _ _); refine mod_any (by first | decide | assumption | omega) ?_; intro _ _ _))); try dsimp only))
end R
set_option maxRecDepth 100000
set_option maxHeartbeats 1000000
namespace R
open PySem PySem.Spec PyProof.Rows L2 DL
local macro_rules | `(tactic| bv_omega) => `(tactic| first | assumption | exact mset_same)
local macro_rules | `(tactic| symm) => `(tactic| first
  | ((with_reducible show ∃ _, _ = _ ∧ _); refine ⟨_, rfl, ?_⟩)
  | ((with_reducible show _ = _ ∧ _); refine ⟨rfl, ?_⟩)
  | ((with_reducible show ∃ _ _, _ = _ ∧ _ = _ ∧ _); refine ⟨_, _, rfl, rfl, ?_⟩)
  | ((with_reducible show ∃ _ _, _ = _ ∧ _); refine ⟨_, _, rfl, ?_⟩)
  | ((with_reducible show ∃ _ _ _, _ = _ ∧ _); refine ⟨_, _, _, rfl, ?_⟩)
  | ((with_reducible show (_ ≤ _ ∧ _) ∧ _); refine ⟨by omega, ?_⟩)
  | with_reducible refine add_int ?_ | with_reducible refine sub_int ?_
  | with_reducible refine lt_int ?_ | with_reducible refine le_int ?_ | with_reducible refine gt_int ?_ | with_reducible refine ge_int ?_
  | with_reducible refine int_int ?_
  | with_reducible refine eq_int ?_ | with_reducible refine ne_int ?_
  | with_reducible refine len_tup ?_ | with_reducible refine len_lst ?_
  | ((with_reducible show rdIx (.cel _) (.int _) _ _); refine ix_cel (by bv_omega) (by rfl) ?_)
  | ((with_reducible show rdIx (.lst _) (.int _) _ _); refine ix_lst (by rfl) ?_)
  | ((with_reducible show rdIx (.tup _) (.int _) _ _); refine ix_tup (by rfl) ?_)
  | ((with_reducible show rdLen [.cel _] _ _); refine len_cel (by bv_omega) ?_)
  | ((with_reducible show rdMul (.int _) (.int _) _ _); first | refine mul_l (by decide) (by decide) ?_ | refine mul_r (by decide) (by decide) ?_ | refine mul_l (by omega) (by omega) ?_ | refine mul_r (by omega) (by omega) ?_)
  | ((with_reducible show rdDiv (.int _) (.int _) _ _); refine div_int (by first | decide | assumption | omega) (by first | decide | assumption | omega) ?_)
  | ((with_reducible show rdDivmod [.int _, .int _] _ _); refine dm_int (by first | decide | assumption | omega) (by first | decide | assumption | omega) ?_)
  | ((with_reducible show @ite _ (_ = true) _ _ _); first | refine ifYes (by first | with_reducible rfl | exact Bool.not_false | assumption) ?_ | refine ifNo (by first | with_reducible rfl | exact Bool.not_true | assumption) ?_)
  | ((with_reducible show ∃ _, _ ∧ _); refine ⟨_, celL_of (by bv_omega), ?_⟩)
  | ((with_reducible show ∃ _ _ _ _, _ ∧ _ ∧ _ ∧ _ ∧ _); refine ⟨_, _, _, _, rfl, rfl, by bv_omega, by rfl, ?_⟩)
  | ((with_reducible show (_ : Nat) ≤ sizeLine ∧ _); refine ⟨by rw [sizeLine_eq]; exact Nat.le_of_ble_eq_true rfl, ?_⟩))
local macro_rules | `(tactic| infer_instance) => `(tactic| ((repeat symm); try dsimp only))
local macro_rules | `(tactic| ac_rfl) => `(tactic| ((repeat (first | symm | ((with_reducible show rdMod (.int _) (.int _) _ _); refine mod_any (by first | decide | assumption | omega) ?_; intro _ _ _))); try dsimp only))
end R
set_option maxRecDepth 100000
set_option maxHeartbeats 1000000
namespace R
open PySem PySem.Spec PyProof.Rows L2 DL
local macro_rules | `(tactic| bv_omega) => `(tactic| first | assumption | exact mset_same)
local macro_rules | `(tactic| symm) => `(tactic| first
  | ((with_reducible show ∃ _, _ = _ ∧ _); refine ⟨_, rfl, ?_⟩)
  | ((with_reducible show _ = _ ∧ _); refine ⟨rfl, ?_⟩)
  | ((with_reducible show ∃ _ _, _ = _ ∧ _ = _ ∧ _); refine ⟨_, _, rfl, rfl, ?_⟩)
  | ((with_reducible show ∃ _ _, _ = _ ∧ _); refine ⟨_, _, rfl, ?_⟩)
  | ((with_reducible show ∃ _ _ _, _ = _ ∧ _); refine ⟨_, _, _, rfl, ?_⟩)
  | ((with_reducible show (_ ≤ _ ∧ _) ∧ _); refine ⟨by omega, ?_⟩)
  | with_reducible refine add_int ?_ | with_reducible refine sub_int ?_
  | with_reducible refine lt_int ?_ | with_reducible refine le_int ?_ | with_reducible refine gt_int ?_ | with_reducible refine ge_int ?_
  | with_reducible refine int_int ?_
  | with_reducible refine eq_int ?_ | with_reducible refine ne_int ?_
  | with_reducible refine len_tup ?_ | with_reducible refine len_lst ?_
  | ((with_reducible show rdIx (.cel _) (.int _) _ _); refine ix_cel (by bv_omega) (by rfl) ?_)
  | ((with_reducible show rdIx (.lst _) (.int _) _ _); refine ix_lst (by rfl) ?_)
  | ((with_reducible show rdIx (.tup _) (.int _) _ _); refine ix_tup (by rfl) ?_)
  | ((with_reducible show rdLen [.cel _] _ _); refine len_cel (by bv_omega) ?_)
  | ((with_reducible show rdMul (.int _) (.int _) _ _); first | refine mul_l (by decide) (by decide) ?_ | refine mul_r (by decide) (by decide) ?_ | refine mul_l (by omega) (by omega) ?_ | refine mul_r (by omega) (by omega) ?_)
  | ((with_reducible show rdDiv (.int _) (.int _) _ _); refine div_int (by first | decide | assumption | omega) (by first | decide | assumption | omega) ?_)
  | ((with_reducible show rdDivmod [.int _, .int _] _ _); refine dm_int (by first | decide | assumption | omega) (by first | decide | assumption | omega) ?_)
  | ((with_reducible show @ite _ (_ = true) _ _ _); first | refine ifYes (by first | with_reducible rfl | exact Bool.not_false | assumption) ?_ | refine ifNo (by first | with_reducible rfl | exact Bool.not_true | assumption) ?_)
  | ((with_reducible show ∃ _, _ ∧ _); refine ⟨_, celL_of (by bv_omega), ?_⟩)
  | ((with_reducible show ∃ _ _ _ _, _ ∧ _ ∧ _ ∧ _ ∧ _); refine ⟨_, _, _, _, rfl, rfl, by bv_omega, by rfl, ?_⟩)
  | ((with_reducible show (_ : Nat) ≤ sizeLine ∧ _); refine ⟨by rw [sizeLine_eq]; exact Nat.le_of_ble_eq_true rfl, ?_⟩))
local macro_rules | `(tactic| infer_instance) => `(tactic| ((repeat symm); try dsimp only))
local macro_rules | `(tactic| ac_rfl) => `(tactic| ((repeat (first | symm | ((with_reducible show rdMod (.int _) (.int _) _ _); refine mod_any (by first | decide | assumption | omega) ?_; intro _ _ _))); try dsimp only))
end R
set_option maxRecDepth 100000
set_option maxHeartbeats 1000000
namespace R
open PySem PySem.Spec PyProof.Rows L2 DL
local macro_rules | `(tactic| bv_omega) => `(tactic| first | assumption | exact mset_same)
local macro_rules | `(tactic| symm) => `(tactic| first
  | ((with_reducible show ∃ _, _ = _ ∧ _); refine ⟨_, rfl, ?_⟩)
  | ((with_reducible show _ = _ ∧ _); refine ⟨rfl, ?_⟩)
  | ((with_reducible show ∃ _ _, _ = _ ∧ _ = _ ∧ _); refine ⟨_, _, rfl, rfl, ?_⟩)
  | ((with_reducible show ∃ _ _, _ = _ ∧ _); refine ⟨_, _, rfl, ?_⟩)
  | ((with_reducible show ∃ _ _ _, _ = _ ∧ _); refine ⟨_, _, _, rfl, ?_⟩)
  | ((with_reducible show (_ ≤ _ ∧ _) ∧ _); refine ⟨by omega, ?_⟩)
  | with_reducible refine add_int ?_ | with_reducible refine sub_int ?_
  | with_reducible refine lt_int ?_ | with_reducible refine le_int ?_ | with_reducible refine gt_int ?_ | with_reducible refine ge_int ?_
  | with_reducible refine int_int ?_
  | with_reducible refine eq_int ?_ | with_reducible refine ne_int ?_
  | with_reducible refine len_tup ?_ | with_reducible refine len_lst ?_
  | ((with_reducible show rdIx (.cel _) (.int _) _ _); refine ix_cel (by bv_omega) (by rfl) ?_)
  | ((with_reducible show rdIx (.lst _) (.int _) _ _); refine ix_lst (by rfl) ?_)
  | ((with_reducible show rdIx (.tup _) (.int _) _ _); refine ix_tup (by rfl) ?_)
  | ((with_reducible show rdLen [.cel _] _ _); refine len_cel (by bv_omega) ?_)
  | ((with_reducible show rdMul (.int _) (.int _) _ _); first | refine mul_l (by decide) (by decide) ?_ | refine mul_r (by decide) (by decide) ?_ | refine mul_l (by omega) (by omega) ?_ | refine mul_r (by omega) (by omega) ?_)
  | ((with_reducible show rdDiv (.int _) (.int _) _ _); refine div_int (by first | decide | assumption | omega) (by first | decide | assumption | omega) ?_)
  | ((with_reducible show rdDivmod [.int _, .int _] _ _); refine dm_int (by first | decide | assumption | omega) (by first | decide | assumption | omega) ?_)
  | ((with_reducible show @ite _ (_ = true) _ _ _); first | refine ifYes (by first | with_reducible rfl | exact Bool.not_false | assumption) ?_ | refine ifNo (by first | with_reducible rfl | exact Bool.not_true | assumption) ?_)
  | ((with_reducible show ∃ _, _ ∧ _); refine ⟨_, celL_of (by bv_omega), ?_⟩)
  | ((with_reducible show ∃ _ _ _ _, _ ∧ _ ∧ _ ∧ _ ∧ _); refine ⟨_, _, _, _, rfl, rfl, by bv_omega, by rfl, ?_⟩)
  | ((with_reducible show (_ : Nat) ≤ sizeLine ∧ _); refine ⟨by rw [sizeLine_eq]; exact Nat.le_of_ble_eq_true rfl, ?_⟩))
local macro_rules | `(tactic| infer_instance) => `(tactic| ((repeat symm); try dsimp only))
local macro_rules | `(tactic| ac_rfl) => `(tactic| ((repeat (first | symm | ((with_reducible show rdMod (.int _) (.int _) _ _); refine mod_any (by first | decide | assumption | omega) ?_; intro _ _ _))); try dsimp only))
theorem piledN {n : Nat} : ∀ {xs : List Str}, (∀ x ∈ xs, x.length ≤ n) → piled xs ≤ (n + 2) * xs.length
  | [], _ => by simp [piled]
  | x :: xs, h => by
    rw [piled_cons, List.length_cons, Nat.mul_add]
    have := h x List.mem_cons_self
    have := piledN fun y hy => h y (List.mem_cons_of_mem _ hy)
    omega
theorem tup_le (ts : List Str) : (tupleText ts).length ≤ 3 + piled ts := by
  unfold tupleText
  rw [strLen_append, strLen_append]
  have hj : (Str.join ", " ts).length ≤ piled ts := by
    cases ts with
    | nil => decide +kernel
    | cons x r =>
      have := join_length_add (x :: r) (by simp)
      omega
  have h4 : ("(" : Str).length = 1 := rfl
  have h5 : ((if ts.length == 1 then ",)" else ")" : String) : Str).length ≤ 2 := by
    split <;> decide +kernel
  omega
theorem shownAll_len : ∀ xs : List PyData, (PyData.shownAll xs).length = xs.length
  | [] => by simp [PyData.shownAll]
  | x :: xs => by rw [PyData.shownAll, List.length_cons, List.length_cons, shownAll_len xs]
theorem lst_le (ts : List Str) : (("[" : Str) ++ Str.join ", " ts ++ "]").length ≤ 3 + piled ts := by
  rw [strLen_append, strLen_append]
  have hj : (Str.join ", " ts).length ≤ piled ts := by
    cases ts with
    | nil => decide +kernel
    | cons x r =>
      have := join_length_add (x :: r) (by simp)
      omega
  have h4 : ("[" : Str).length = 1 := rfl
  have h5 : ("]" : Str).length = 1 := rfl
  omega
end R
set_option maxRecDepth 100000
set_option maxHeartbeats 4000000
namespace DL
open PySem PySem.Spec PyProof.Rows L2 PySem.Calls
end DL
set_option maxRecDepth 100000
set_option maxHeartbeats 4000000
namespace DL
open PySem PySem.Spec PyProof.Rows L2 PySem.Calls
end DL
set_option maxRecDepth 100000
set_option maxHeartbeats 4000000
namespace DL
open PySem PySem.Spec PyProof.Rows L2
end DL
set_option maxRecDepth 100000
set_option maxHeartbeats 4000000
namespace DL
open PySem PySem.Spec PyProof.Rows L2
section
variable {X : Cx} {W : WX}
/-- list(range(e)) -/
@[reducible] def dListR (de : DE) : DE := fun env M q E => de env M (fun d M1 => ∃ n : Nat, d = .int (n : Int) ∧ n ≤ 100000 ∧ q (.lst ((List.range n).map fun (i : Nat) => D.int (i : Int))) M1) E
theorem pd_listR {e : Expr} {de : DE} {p p1 pos pos1 : Pos} (hc : X.calm = true) (hg : Gl X "list") (hm : X.mg "list" = none) (hg1 : Gl X "range") (hm1 : X.mg "range" = none) (he : PD X W e de)
    (na : starEach [e] X.env = (false, eval e X.env) :: starEach [] X.env := by rfl) (na1 : starEach [.Call (.Name "range" p1) [e] [] pos1] X.env = (false, eval (.Call (.Name "range" p1) [e] [] pos1) X.env) :: starEach [] X.env := by rfl) :
    PD X W (.Call (.Name "list" p) [.Call (.Name "range" p1) [e] [] pos1] [] pos) (dListR de) :=
  peImp (pe_listRg hc hg hm (prg_1 hg1 hm1 he na) na1) fun σ H Q ⟨env, M, q, E, H0, so, S, h, k, kx⟩ =>
    goE so S h kx fun x dx H1 H' M1 e1 so1 S1 rx ⟨n, ed, hn, w⟩ kx1 => by
      subst ed
      refine ⟨n, rx.inv_int, RgOk.of_le (by omega) (by omega) (by omega) (by omega), ?_⟩
      have e : rgV 0 (n : Int) = ((List.range n).map fun (i : Nat) => (i : Int)).map V.int := by
        unfold rgV
        rw [show ((n : Int) - 0).toNat = n by omega, List.map_map]
        refine List.map_congr_left fun i _ => ?_
        show V.int (0 + (i : Int)) = V.int (i : Int)
        rw [Int.zero_add]
      rw [e]
      refine (k.mono e1).newL S1 (dn_ints _) ?_
      rw [List.map_map]
      exact w
end
end DL
set_option maxRecDepth 100000
set_option maxHeartbeats 4000000
namespace DL
open PySem PySem.Spec PyProof.Rows L2
section
variable {X : Cx} {W : WX} {tg : Expr}
def rdSum : RDL := fun ds M q => ∃ d xs ns, ds = [d] ∧ lsqOf M d = some xs ∧ intsD xs = some ns ∧ q (.int ns.sum) M
theorem cd_sum (hc : X.calm = true) : CallD X (.builtin "sum") rdSum := ⟨_, cr_sum hc, fun H0 H M xs ds q Q S r w k => by
  obtain ⟨d, ys, ns, rfl, e, en, w⟩ := w
  obtain ⟨v, rfl, rv⟩ := dnl1 r
  obtain ⟨a, vs, rfl, hs, rs⟩ := S.lsq rv e
  have z := ints_dn rs en
  subst z
  exact ⟨a, ns, rfl, hs, k.here S (.int _) w⟩⟩
@[reducible] def rdRevL : RD1 := fun x M q => ∃ xs, lsqOf M x = some xs ∧ q (.lst xs.reverse) M
@[reducible] def dRevL (de : DE) : DE := fun env M q E => de env M (fun x M1 => rdRevL x M1 q) E
theorem pd_revL {e : Expr} {de : DE} {k : Nat} {p1 p2 p3 pos : Pos} (he : PD X W e de) : PD X W (.Subscript e (.Slice none none (some (.UnaryOp .USub (.Constant (.int 1) k p1) p2)) p3) pos) (dRevL de) :=
  peImp (pe_revL he) fun σ H Q ⟨env, M, q, E, H0, so, S, h, k, kx⟩ => ⟨env, M, _, E, H0, so, S, h, fun v d H1 H' M1 e1 S1 rv w => by
    obtain ⟨xs, e, w⟩ := w
    obtain ⟨a, vs, rfl, hs, r⟩ := S1.lsq rv e
    exact ⟨_, _, rfl, hs, (k.mono e1).newL S1 r.rev w⟩, kx⟩
theorem rev_at {α : Type} {xs : List α} {i : Nat} {x : α} (h : xs.reverse[i]? = some x) : i < xs.length ∧ xs[xs.length - 1 - i]? = some x := by
  have hi := (List.getElem?_eq_some_iff.mp h).1
  rw [List.length_reverse] at hi
  rw [List.getElem?_reverse hi] at h
  exact ⟨hi, h⟩
theorem itv_ok {K : PySem.W.Frag} {H0 : Hp} {a : Addr} {d : D} {xs : List D} {n : Nat} (hn : n = xs.length) (hl : ∀ H0' H M, Ext H0 H0' → SD K H0' H M → lsqOf M d = some xs → ∃ vs, SqL K H a vs ∧ DnL K H0' vs xs) : ItOk K H0 (Itv K a n) xs.reverse (fun M => lsqOf M d = some xs) where
  go := fun H0' H M i y e S ok hi => by
    obtain ⟨h1, h2⟩ := rev_at hi
    obtain ⟨vs, hs, r⟩ := hl H0' H M e S ok
    rw [← hn] at h1 h2
    obtain ⟨v, hv, rv⟩ := r.get h2
    exact ⟨⟨h1, vs, v, hs, hv⟩, fun x H' ⟨e1, e2⟩ => by
      subst e1
      have := e2 vs hs
      rw [hv] at this
      cases this
      exact ⟨H0', Ext.refl _, S, rv⟩⟩
  stop := fun H0' H M i e S ok hi => by
    rw [List.length_reverse, ← hn] at hi
    exact hi
@[reducible] def dIterRev (de : DE) : DI := fun env M q E => de env M (fun d M1 => ∃ xs, lsqOf M1 d = some xs ∧ q xs.reverse (fun M' => lsqOf M' d = some xs) M1) E
theorem id_rev {e : Expr} {de : DE} {p pos : Pos} (hg : Gl X "reversed") (hm : X.mg "reversed" = none) (he : PD X W e de) (hs : starEach [e] X.env = (false, eval e X.env) :: starEach [] X.env := by rfl) : ID X W tg (.Call (.Name "reversed" p) [e] [] pos) (dIterRev de) :=
  piImp (RT.pi_revA hg hm he hs) fun σ H R ⟨env, M, q, E, H0, so, S, h, k, kx⟩ => goE so S h kx fun x dx H1 H' M1 e1 so1 S1 rx ⟨xs, ex, w⟩ kx1 => by
    obtain ⟨a, vs, rfl, hs2, r⟩ := S1.lsq rx ex
    exact ⟨a, vs, rfl, .inl ⟨hs2, k _ _ _ H1 H' M1 e1 S1 (itv_ok (d := dx) r.length (lsq_at rx rfl)) w⟩⟩
end
end DL
set_option maxRecDepth 100000
namespace SL
open PySem PySem.Spec PyProof.Rows L2
/-- an empty set as it is made -/
abbrev newSetO (w : World) : Obj := { cls := .type "set", dict := none, data := .set #[] 0 (.fresh 0 0 (!w.params.followText "set-order")) }
abbrev behindSet (w : World) (s : Shared) : Shared := { s with heap := s.heap.push (newSetO w) }
/-- what set(l) leaves -/
structure Filled (w : World) (s : Shared) (ns : List Int) (h' : Heap) (c : Nat) : Prop where
  at_ : SetR w h' s.heap.objs.size (fun j => decide (j ∈ ns)) c
  few : c ≤ ns.length
  old : ∀ b o, s.heap.get? b = some o → h'.get? b = some o
section
variable {P : Program} {w : World} {A : Around} {E : Value → Shared → Prop} {s : Shared} {l : Addr} {items : Array Value} {ns : List Int}
/-- set.__init__ over a list of ints -/
theorem init_list (hh : A.handled = none) (hl : s.heap.IsList l items) (hi : IntsAre items.toList ns) (hn : items.size = ns.length) (hb : ns.length + 1 < scanBound) {Q : PySem.Fin → Shared → Prop}
    (h : ∀ h' tk c, Filled w s ns h' c → Q (.done (.ret Value.none)) { s with heap := h', toks := tk }) :
    wpAny (model P w) A (Builtin.«set.__init__» ⟨[.ref s.heap.objs.size, .ref l], []⟩) Q E (behindSet w s) := by
  have at0 : (behindSet w s).heap.get? s.heap.objs.size = some (newSetO w) := Heap.get?_push_size _ rfl
  have hT : (behindSet w s).TypeIs (.ref s.heap.objs.size) "set" := ⟨_, at0, rfl⟩
  obtain ⟨⟨cl, dd, dt, sl⟩, ho, hc, n, hd⟩ := id hl
  simp only at hc hd
  subst hc hd
  have ho' : (behindSet w s).heap.get? l = some { cls := .type "list", dict := dd, data := .seq items n, slots := sl } := Heap.get?_push_of_some _ ho
  have k1 := F.sub_list_set
  have k2 := F.sub_list_frozenset
  have k3 : (Value.type "list" == Value.type "dict") = false := by decide
  have hl1 : (behindSet w s).heap.IsList l items := hl.push _
  unfold Builtin.«set.__init__» noKeywords Builtin.Frozenset.updateFrom
  generalize gPI : pyIter = PI
  wp_walk
  subst gPI
  refine wpAny_pyIter_list hl1 ?_
  refine wpAny_bind (wpAny_runValue ?_)
  have lt0 : l < s.heap.objs.size := Heap.lt_size ho
  have sz1 : (behindSet w s).heap.objs.size = s.heap.objs.size + 1 := Heap.size_push ..
  have n1 : l ≠ (behindSet w s).heap.objs.size := fun z => absurd (z.trans sz1) (Nat.ne_of_lt (Nat.lt_succ_of_lt lt0))
  have n2 : s.heap.objs.size ∉ [(behindSet w s).heap.objs.size, l] := by
    intro z
    have z := List.mem_cons.mp z
    rcases z with z | z
    · exact absurd (z.trans sz1) (Nat.ne_of_lt (Nat.lt_succ_self _))
    · exact absurd (List.mem_singleton.mp z) (Nat.ne_of_gt lt0)
  refine set_update_ints ((Walks.list (show A.in1.handled = none by simp [hh]) _ l n1 items).toS) s.heap.objs.size n2 ns hn hb (fun i v hv => ?_) (items.size - 0) 0 _ (by omega) (Nat.zero_le _)
    ?_ ⟨0, Nat.le_refl 0, ?_⟩ fun s' c hm hc' hS => ?_
  rotate_left
  · exact ⟨⟨_, Heap.get?_push_size _ rfl, rfl, rfl⟩, hl1.push _⟩
  · exact setR_new_at (w := w) (Heap.get?_push_of_some _ at0)
  rotate_left
  · have lt1 : i < ns.length := by rw [← hn]; exact (Array.getElem?_eq_some_iff.mp hv).1
    obtain ⟨t, et⟩ := IntsAre.int_at hi i v (by rw [Array.getElem?_toList]; exact hv)
    exact ⟨ns[i], t, List.getElem?_eq_getElem lt1, by rw [et, List.getD_eq_getElem?_getD, List.getElem?_eq_getElem lt1] <;> rfl⟩
  · obtain ⟨h', g2, d', tk, os'⟩ := s'
    have eg : g2 = s.gens := hm.gens
    have ed : d' = s.drawn := hm.drawn
    have eo : os' = s.os := hm.os
    subst eg ed eo
    show wpAny _ _ _ _ _ _
    refine wpAny_pure ?_
    show wpAny _ _ (ret Value.none) _ _ _
    refine wpAny_pure (h h' tk c ⟨hS, by omega, fun b o e => ?_⟩)
    have lt2 : b < s.heap.objs.size := Heap.lt_size e
    refine hm.heap b o (fun z => ?_) (Heap.get?_push_of_some _ (Heap.get?_push_of_some _ e))
    have z := List.mem_cons.mp z
    rcases z with z | z
    · exact absurd z (Nat.ne_of_lt lt2)
    · exact absurd ((List.mem_singleton.mp z).trans sz1) (Nat.ne_of_lt (Nat.lt_succ_of_lt lt2))
/-- set(l), l a list of ints -/
theorem set_list (hh : A.handled = none) (hl : s.heap.IsList l items) (hi : IntsAre items.toList ns) (hb : ns.length + 1 < scanBound) {Q : Value → Shared → Prop}
    (h : ∀ h' tk c, Filled w s ns h' c → Q (.ref s.heap.objs.size) { s with heap := h', toks := tk }) : wpAny (model P w) A (call (.type "set") [.ref l]) Q E s := by
  have hn : items.size = ns.length := by rw [← Array.length_toList]; exact IntsAre.length hi
  obtain ⟨c0, tl, g0⟩ := F.called_set.mro
  have g1 := F.called_set.made
  have g2 := F.called_set.sub
  have g3 := F.called_set.notType
  have g4 := F.called_set.canCreate
  have g5 := F.typeCall_set_1 (.ref l)
  refine wpAny_call (codeAny_of_tree ?_)
  show wpAny _ _ (callAny (.type "set") _) _ _ _
  refine wpAny_pure ⟨Code.quiet_builtin _ (by decide +kernel), codeAny_builtin F.entry_type_call ?_⟩
  rw [Around.under_plain (weight_type_call_type "set" [.ref l] []) rfl]
  repeat (any_goals (first | assumption | wp_step))
  refine codeAny_mono (code_set_led1 (.ref l) (E := E) (Q₁ := fun o s1 => o = .ref s.heap.objs.size ∧ s1 = behindSet w s) ⟨rfl, rfl⟩) fun r s1 hr => ?_
  match r, hr with
  | .error e, hr => exact hr
  | .ok (.ret o), hr =>
    obtain ⟨rfl, rfl⟩ := hr
    have at0 : (behindSet w s).heap.get? s.heap.objs.size = some (newSetO w) := Heap.get?_push_size _ rfl
    have hT : (behindSet w s).TypeIs (.ref s.heap.objs.size) "set" := ⟨_, at0, rfl⟩
    have g6 := F.called_set.init.lookup
    have g7 := F.called_set.init.bind (.ref s.heap.objs.size)
    repeat (any_goals (first | assumption | wp_step))
    refine codeAny_mono (codeAny_call_builtin (R := wants (fun r s2 => r = .none ∧ ∃ h' tk c, s2 = { s with heap := h', toks := tk } ∧ Filled w s ns h' c) E) F.called_set.init.plain F.entry_set_init (check_set_init_1 hT (init_list (by simp [hh]) hl hi hn hb fun h' tk c f => ⟨rfl, h', tk, c, rfl, f⟩))) fun r2 s2 hr2 => ?_
    match r2, hr2 with
    | .error e, hr2 => exact hr2
    | .ok (.ret r), hr2 =>
      obtain ⟨rfl, h', tk, c, rfl, f⟩ := hr2
      repeat (any_goals (first | assumption | wp_step))
      exact h _ _ _ f
end
end SL
namespace DL
open PySem PySem.Spec PyProof.Rows L2
section
variable {X : Cx} {W : WX}
def rSetL (X : Cx) : List V → Hp → VK → Prop := fun vs H Q => ∃ (a : Addr) (ns : List Int), vs = [V.ref a] ∧ SqL X.K H a (ns.map V.int) ∧ ns.length < 4000 ∧ ∀ p c, c ≤ ns.length → H p = none → Q (.ref p) (upd H p (SetO X.w p (fun j => decide (j ∈ ns)) c))
theorem cr_setL (hc : X.calm = true) : CallR X (.type "set") (rSetL X) := by
  intro pins s σ H vs us Q I r h
  obtain ⟨a, ns, rfl, hs, hl, q⟩ := h
  obtain rfl := Vals.ref1 r
  obtain ⟨its, rv, hp, hz⟩ := I.list hs
  refine SL.set_list (I.ok.hd hc) hp.isList rv.ints (by unfold scanBound; omega) fun h' tk c f => ?_
  exact ⟨.ref _, upd H s.heap.objs.size (SetO X.w s.heap.objs.size (fun j => decide (j ∈ ns)) c), I.laid f.old (Nat.le_refl _) (setO_new f.at_), rfl, q _ c f.few (I.hok.fresh (Nat.le_refl _))⟩
/-- sorted(set(l)), l a list of ints, fewer than 64 -/
@[reducible] def dSortSet (de : DE) : DE := fun env M q E => de env M (fun d M1 => ∃ xs ns, lsqOf M1 d = some xs ∧ intsD xs = some ns ∧ ns.length < 64 ∧ ∀ ms : List Int, ms.Pairwise (· < ·) → (∀ k, k ∈ ms ↔ k ∈ ns) → q (.lst (ms.map D.int)) M1) E
theorem pd_sortSet {e : Expr} {de : DE} {p0 p1 p2 p3 : Pos} (hc : X.calm = true) (hg : Gl X "sorted") (hm : X.mg "sorted" = none) (hg2 : Gl X "set") (hm2 : X.mg "set" = none) (he : PD X W e de)
    (hs : starEach [e] X.env = (false, eval e X.env) :: starEach [] X.env := by rfl) (hs2 : starEach [.Call (.Name "set" p1) [e] [] p2] X.env = (false, eval (.Call (.Name "set" p1) [e] [] p2) X.env) :: starEach [] X.env := by rfl) :
    PD X W (.Call (.Name "sorted" p0) [.Call (.Name "set" p1) [e] [] p2] [] p3) (dSortSet de) :=
  peImp (pe_callB (cr_sortedSet hc) hg hm (by decide +kernel) (pa_cons (pe_callTy (cr_setL hc) hg2 hm2 (by decide +kernel) (pa_cons he pa_nil hs) (he := hs)) pa_nil hs2) (he := hs2)) fun σ H Q ⟨env, M, q, E, H0, so, S, h, k, kx⟩ =>
    goE so S h kx fun x dx H1 H' M1 e1 so1 S1 rx ⟨xs, ns, ex, en, hl, w⟩ kx1 => by
      obtain ⟨a, vs, rfl, hs, rs⟩ := S1.lsq rx ex
      have z := ints_dn rs en
      subst z
      refine ⟨a, ns, rfl, hs, by omega, fun p c hc hp => ⟨p, _, c, rfl, upd_same, by omega, fun ms p2 h1 h2 h3 hp2 => ?_⟩⟩
      exact (k.mono e1).newL (S1.aside hp) (dn_ints ms) (w ms h1 fun j => (h2 j).trans (by simp)) p2 hp2
end
end DL
set_option maxRecDepth 100000
set_option maxHeartbeats 4000000
namespace DL
open PySem PySem.Spec PyProof.Rows L2
section
open SrtO Srt
variable {prog : Program} {w : World} {A : Around} {E : Value → Shared → Prop} {s : Shared}
/-- sorted(l, reverse=True): pairs with other ints -/
theorem sorted_pairSR {l : Addr} {vs : List Value} {k : Value → Int} {z : Value → PySem.Str} {Q : Value → Shared → Prop} (hl : s.heap.IsList l vs.toArray) (hz : vs.length ≤ sizeLine) (hp : ∀ v ∈ vs, IsPairS s.heap v (k v) (z v)) (hi : ∀ v ∈ vs, ∀ u ∈ vs, k v = k u → z v = z u)
    (h : ∀ (h' : Heap) (d : Addr) (out : List Value), Srtd (ltI k) out → out.Perm vs → (∀ b o, s.heap.get? b = some o → h'.get? b = some o) → s.heap.objs.size ≤ d → (∃ n, h'.get? d = some (seqObj "list" out.toArray.reverse n)) → Q (.ref d) { s with heap := h' }) :
    wpAny (model prog w) A (call (.builtin "sorted") [.ref l] [(Str.ofString "reverse", .bool true)]) Q E s := by
  refine SrtR.sorted_ordK (b := true) (fun _ => rfl) (PyProof.Rows.args_sorted_rev _ _) (fun _ => PyProof.Rows.args_list_sort_rev _ _) (swo_int k) hl hz (fun h2 h₁ a ha kk => ?_) fun out hs hb => ?_
  · refine pairS_sortable (s := { s with heap := h₁ }) (by omega) (fun v hm => (hp v hm).keeps fun b o e _ => (kk b o e).2) hi fun o e => ?_
    have e' : some o = some (seqObj "list" vs.toArray 0) := e.symm.trans ha
    cases e'
    intro c
    exact absurd (Value.type.inj c) (by decide)
  · have hb' : Stb (ltI k) out vs.reverse := hb
    refine h _ _ out hs (hb'.perm.trans (List.reverse_perm vs)) (fun b o e => sortedAll_old e) (Nat.le_succ _) ?_
    exact sortedAll_at s.heap vs out.toArray.reverse
end
def rSortPSR (K : PySem.W.Frag) : List V → List V → Hp → VK → Prop := fun vs zs H Q => ∃ (a : Addr) (xs : List V) (ps : List (Int × PySem.Str)), vs = [V.ref a] ∧ zs = [.bl true] ∧ SqL K H a xs ∧ (∀ x ∈ xs, ∃ p, p ∈ ps ∧ pairAt K H x p) ∧ (∀ p ∈ ps, ∀ q ∈ ps, p.1 = q.1 → p.2 = q.2) ∧
  ∀ (ys : List V) (p : Addr), ys.Pairwise (fun x y => ∀ p q : Int × PySem.Str, pairAt K H x p → pairAt K H y q → q.1 ≤ p.1) → ys.Perm xs → H p = none → Q (.ref p) (upd H p (.lst ys))
section
variable {X : Cx} {W : WX}
open Classical in
theorem cr_sortPSR : CallRK X (.builtin "sorted") [Str.ofString "reverse"] (rSortPSR X.K) := by
  intro pins s σ H vs zs us ws Q I r rz h
  obtain ⟨a, xs, ps, rfl, rfl, hs, hx, hi, q⟩ := h
  let g : V → Int × PySem.Str := fun v => if e : ∃ p, pairAt X.K H v p then e.choose else (0, default)
  have gok : ∀ v p, pairAt X.K H v p → g v = p := fun v p hp => by
    have e : ∃ p, pairAt X.K H v p := ⟨p, hp⟩
    have e1 : g v = e.choose := dif_pos e
    obtain ⟨t, rfl, q1⟩ := hp
    obtain ⟨t', e2, q2⟩ := e.choose_spec
    cases e2
    have z := I.tuple_inj q1 q2
    rw [e1]
    simp only [List.cons.injEq, V.int.injEq, V.str.injEq, and_true] at z
    exact Prod.ext z.1.symm z.2.symm
  obtain ⟨its, rv, hl, hz⟩ := I.list hs
  obtain ⟨u, rfl, ru⟩ := vals1 r
  obtain rfl : u = Value.ref a := ru
  obtain ⟨w1, rfl, ew⟩ := vals1 rz
  obtain rfl : w1 = Value.bool true := ew
  obtain ⟨e1, e2⟩ := refs_back rv fun x m => by
    obtain ⟨p, _, t, e, _⟩ := hx x m
    exact ⟨t, e⟩
  have mem : ∀ v ∈ its, backV v ∈ xs := fun v hv => by rw [e1]; exact List.mem_map.mpr ⟨v, hv, rfl⟩
  have gat : ∀ v ∈ xs, pairAt X.K H v (g v) := fun v hv => by
    obtain ⟨p, _, hp⟩ := hx v hv
    rw [gok v p hp]; exact hp
  have gin : ∀ v ∈ xs, g v ∈ ps := fun v hv => by
    obtain ⟨p, hm, hp⟩ := hx v hv
    rw [gok v p hp]; exact hm
  refine sorted_pairSR (k := fun u => (g (backV u)).1) (z := fun u => (g (backV u)).2) hl.isList (by rw [← rv.length]; exact hz) (fun v hv => ?_) (fun v hv u hu => hi _ (gin _ (mem v hv)) _ (gin _ (mem u hu))) fun h' d out h1 h2 kp hd hn => ?_
  · obtain ⟨t, rfl⟩ := e2 v hv
    obtain ⟨t', et, ht⟩ := gat _ (mem _ hv)
    cases et
    obtain ⟨its2, rv2, ⟨o, ho, hc, n, hdt⟩, _⟩ := I.tuple ht
    obtain ⟨u1, u2, rfl, r1, r2⟩ := vals2 rv2
    obtain ⟨t1, rfl⟩ := r1
    obtain ⟨t2, rfl⟩ := r2
    exact ⟨t, o, t1, t2, n, rfl, ho, hc, hdt⟩
  · have h3 : ∀ u ∈ out.reverse, ∃ a, u = Value.ref a := fun u hu => e2 u (h2.mem_iff.mp (List.mem_reverse.mp hu))
    obtain ⟨n, hn⟩ := hn
    rw [List.reverse_toArray] at hn
    have hb : (out.reverse.map backV).Perm xs := by rw [e1]; exact ((List.reverse_perm out).trans h2).map backV
    refine ⟨.ref d, upd H d (.lst (out.reverse.map backV)), I.laid (t' := s.toks) kp hd ⟨?_, out.reverse, n, vals_back h3, hn⟩, rfl, q _ d ?_ hb (I.hok.fresh hd)⟩
    · rw [hb.length_eq]
      exact hz
    · rw [List.pairwise_map, List.pairwise_reverse]
      exact h1.imp fun h p q hp hq => by
        rw [← gok _ p hp, ← gok _ q hq]
        exact Int.not_lt.mp (of_decide_eq_false h)
/-- sorted(e, reverse=True), e a list of pairs -/
@[reducible] def dSortPR (de : DE) : DE := fun env M q E => de env M (fun d M1 => ∃ (xs : List D) (ps : List (Int × PySem.Str)), lsqOf M1 d = some xs ∧ pairsD xs = some ps ∧ (∀ a ∈ ps, ∀ b ∈ ps, a.1 = b.1 → a.2 = b.2) ∧ ∀ ps' : List (Int × PySem.Str), ps'.Perm ps → ps'.Pairwise (fun a b => b.1 ≤ a.1) → q (.lst (ps'.map pairD)) M1) E
theorem pd_sortPR {e : Expr} {de : DE} {j : Nat} {p0 p1 p2 p3 : Pos} (hg : Gl X "sorted") (hm : X.mg "sorted" = none) (he : PD X W e de)
    (hs : backTo p3 (starEach [e] X.env) = (false, eval e X.env) :: backTo p3 (starEach [] X.env) := by rfl) (hpl : (backTo p3 (starEach [e] X.env)).any (·.1) = false := by rfl)
    (hs1 : starEach [e] X.env = (false, eval e X.env) :: starEach [] X.env := by rfl)
    (hall : (backToKw p3 (keywordEach [⟨some (Str.ofString "reverse"), .Constant (.bool true) j p1, p2⟩] X.env)).all (·.1.isSome) = true := by rfl) (hnone : (backToKw p3 (keywordEach [⟨some (Str.ofString "reverse"), .Constant (.bool true) j p1, p2⟩] X.env)).any (·.1.isNone) = false := by rfl)
    (hks : (backToKw p3 (keywordEach [⟨some (Str.ofString "reverse"), .Constant (.bool true) j p1, p2⟩] X.env)).filterMap (·.1) = [Str.ofString "reverse"] := by rfl) :
    PD X W (.Call (.Name "sorted" p0) [e] [⟨some (Str.ofString "reverse"), .Constant (.bool true) j p1, p2⟩] p3) (dSortPR de) :=
  peImp (pe_callBK cr_sortPSR hg hm (by decide +kernel) (pa_cons he pa_nil hs1) (pk_cons pe_bl pk_nil) (he := hs) (hpl := hpl) (hall := hall) (hnone := hnone) (hks := hks)) fun σ H Q ⟨env, M, q, E, H0, so, S, h, k, kx⟩ =>
    goE so S h kx fun x dx H1 H' M1 e1 so1 S1 rx ⟨xs, ps, ex, ep, hi, w⟩ kx1 => by
      obtain ⟨a, vs, rfl, hs, rs⟩ := S1.lsq rx ex
      have eq := pairsD_eq ep
      subst eq
      have ex : ∀ x ∈ vs, ∃ p ∈ ps, Dn X.K H1 x (pairD p) := fun x hx => by
        obtain ⟨n, hn⟩ := List.getElem?_of_mem hx
        obtain ⟨dd, h1, h2⟩ := rs.getV hn
        rw [List.getElem?_map] at h1
        obtain ⟨p, hp, rfl⟩ := omap h1
        exact ⟨p, List.mem_of_getElem? hp, h2⟩
      refine ⟨a, vs, ps, rfl, rfl, hs, fun x hx => ?_, hi, fun us b hs2 hp hb => ?_⟩
      · obtain ⟨p, m, z⟩ := ex x hx
        exact ⟨p, m, dn_pair (z.mono S1.ex)⟩
      · obtain ⟨es, pe, re⟩ := rs.perm hp
        obtain ⟨ps', pp, rfl⟩ := map_pairs pe
        exact (k.mono e1).newL S1 re (w ps' pp (dn_pw (fun x y p q h1 h2 z => z p q (dn_pair (h1.mono S1.ex)) (dn_pair (h2.mono S1.ex))) re hs2)) b hb
end
end DL
set_option maxRecDepth 100000
set_option maxHeartbeats 4000000
namespace DL
open PySem PySem.Spec PyProof.Rows L2 PySem.Calls
def KwPf (fd : FuncData) (ps : List Str) (ks : List Str) (pm : List Nat) : Prop := ∀ (s : Shared) (ws : List Value), ws.length = ks.length → BindsTo s fd ⟨[], ks.zip ws⟩ (ps.zip (permL pm ws))
def FokP (P : Program) (w : World) (K : PySem.W.Frag) (mg : Str → Option Value) (base : Heap) (x : Str) (k n : Nat) (ks : List Str) (pm : List Nat) (sd : SpD) : Prop :=
  ∃ (f : Addr) (fd : FuncData) (ps : List Str), mg x = some (.ref f) ∧ PySem.W.keepIn K (.ref f) = true ∧ KwPf fd ps ks pm ∧ FnOk P w K mg base (L2.CX P w) k f fd ps (spOf K n sd)
@[reducible] def dCallP (n : Nat) (ks : List Str) (pm : List Nat) (sd : SpD) (da : DA) : DE := fun env M q E => da env M (fun ds M1 => ds.length = ks.length ∧ (permL pm ds).length = n ∧ sd (permL pm ds) M1 q E) E
section
variable {X : Cx} {W : WX}
theorem pd_fnP {k n : Nat} {x : Str} {ks : List Str} {pm : List Nat} {sd : SpD} {kws : List Keyword} {da : DA} {p pos : Pos} (F : FokP X.prog X.w X.K X.mg X.base x k n ks pm sd) (hr : Room k X.A) (tk : Takes X W) (ha : KD X W kws da) (hg : Gl X x := by rfl)
    (hall : (backToKw pos (keywordEach kws X.env)).all (·.1.isSome) = true := by rfl) (hks : (backToKw pos (keywordEach kws X.env)).filterMap (·.1) = ks := by rfl) (hdb : (x == ("__debug__" : Str)) = false := by decide)
    (hpl : ((backTo pos (starEach [] X.env)).any (·.1) || (backToKw pos (keywordEach kws X.env)).any (·.1.isNone)) = false := by rfl) : PD X W (.Call (.Name x p) [] kws pos) (dCallP n ks pm sd da) := by
  obtain ⟨f, fd, ps, hm, hk, hb, F⟩ := F
  constructor
  intro pins s σ H Q I ⟨env, M, q, E, H0, so, S, h, kq, kx⟩
  refine wpAny_Call_Name_kw (ld_glob I hg hm ?_ hdb)
  refine PySem.W.callWith_KW0 (h₀ := X.base) I.ok.mod.kin hk hall (wpAny_mono (PK.run (t := liftA X.K W da) ha pos pins s σ H (fun vs H1 => vs.length = ks.length ∧ spOf X.K n sd (permL pm vs) H1 Q (WE W σ)) I
    (goA so S h kx fun vs ds H1 H' M1 e1 so1 S1 rs ⟨hl, hn, w⟩ kx1 => ⟨by rw [rs.length]; exact hl, permL pm ds, M1, q, E, H1, hn, permL_dn rs pm, S1, w, kq.mono e1, kx1⟩)) (fun us s1 ⟨vs, H1, I1, r, hl, q1⟩ => ⟨I1.kIn, ?_⟩) fun _ _ z => z) hpl
  rw [hks]
  refine wpAny_call (codeAny_mono (F.run X.A X.stack s1 H1 ⟨[], ks.zip us⟩ (permL pm us) (permL pm vs) Q (WE W σ) hr I1.env0 (hb s1 us (by rw [← r.length]; exact hl)) (permL_vals r pm) q1) fun res s' out => ?_)
  cases res with
  | error e => exact passAt tk σ pins H1 s1 e s' I1 out
  | ok fl =>
    cases fl with
    | ret u => exact I1.after out
    | next => exact out.elim
    | brk => exact out.elim
    | cont => exact out.elim
end
end DL
set_option maxRecDepth 100000
set_option maxHeartbeats 4000000
namespace DL
open PySem PySem.Spec PyProof.Rows L2
theorem zipD_map {α β : Type} (e : α → D) (e' : β → D) : ∀ (xs : List α) (ys : List β), zipD (xs.map e) (ys.map e') = (xs.zip ys).map fun p => .tup [e p.1, e' p.2]
  | [], _ => rfl
  | _ :: _, [] => rfl
  | x :: xs, y :: ys => by
    show .tup [e x, e' y] :: zipD (xs.map e) (ys.map e') = _
    rw [zipD_map e e' xs ys]; rfl
section
variable {α : Type} {ok : Mem → Prop} {g : GD} {body : DS} {d : EndD}
theorem for_map (emb : α → D) {xs : List α} (I : Nat → EnvD → Mem → Prop) (h0 : ∀ env M, I xs.length env M → ok M ∧ d.nx env M)
    (hs : ∀ i x env M, xs[i]? = some x → I i env M → ∀ nx : EnvD → Mem → Prop, (∀ env' M', I (i + 1) env' M' → nx env' M') → ok M ∧ g (emb x) env M (fun env' M' => body { d with nx := nx, ct := nx, bk := d.nx } env' M') d.ex) (env : EnvD) (M : Mem) (h : I 0 env M) : forW ok g body d (xs.map emb) env M := by
  refine for_lst I (by rw [List.length_map]; exact h0) (fun i x env M hx hI nx hn => ?_) env M h
  rw [List.getElem?_map] at hx
  obtain ⟨y, hy, rfl⟩ := omap hx
  exact hs i y env M hy hI nx hn
end
section
variable {α β : Type} {ok : Mem → Prop} {g : GD} {t : DT} {de : DE} {env : EnvD} {q : QD} {c : Addr} {M : Mem}
theorem lc_map (emb : α → D) (p : α → Bool) (f : α → D) {xs : List α} (hc : M c = none) (hn : xs.length ≤ sizeLine) (hok : ∀ acc, ok (mset M c (.ls acc)))
    (hs : ∀ x, x ∈ xs → ∀ (acc : List D), acc.length < sizeLine → ∀ nx : Mem → Prop, (p x = true → nx (mset M c (.ls (acc ++ [f x])))) → (p x = false → nx (mset M c (.ls acc))) →
      g (emb x) env (mset M c (.ls acc)) (fun env' M' => t env' M' (fun b M2 => if b = true then de env' M2 (fun y M3 => ∃ ys, M3 c = some (.ls ys) ∧ ys.length < sizeLine ∧ nx (mset M3 c (.ls (ys ++ [y])))) noX else nx M2) noX) (fun _ => noX))
    (hq : q (.lst ((xs.filter p).map f)) M) : lcW ok g t de env q c (xs.map emb) (mset M c (.ls [])) := by
  refine lc_lst (fun i M' => M' = mset M c (.ls (((xs.take i).filter p).map f))) (fun M' e => ?_) (fun i x M' hx e nx hnx => ?_) _ (by rw [List.take_zero]; rfl)
  · subst e
    rw [List.length_map, List.take_length]
    refine ⟨hok _, _, mset_same, ?_⟩
    rw [mdel_mset hc]; exact hq
  · subst e
    rw [List.getElem?_map] at hx
    obtain ⟨y, hy, rfl⟩ := omap hx
    have hi := (List.getElem?_eq_some_iff.mp hy).1
    have e1 : xs.take (i + 1) = xs.take i ++ [y] := by rw [List.take_add_one, hy]; rfl
    refine ⟨hok _, hs y (List.mem_of_getElem? hy) _ ?_ nx (fun hp => ?_) fun hp => ?_⟩
    · rw [List.length_map]
      have h1 := List.length_filter_le p (xs.take i)
      rw [List.length_take] at h1
      omega
    · refine hnx _ ?_
      rw [e1, List.filter_append, List.map_append, List.filter_cons, if_pos hp]; rfl
    · refine hnx _ ?_
      rw [e1, List.filter_append, List.map_append, List.filter_cons, if_neg (by rw [hp]; exact Bool.false_ne_true), List.filter_nil, List.map_nil, List.append_nil]
/-- no test -/
theorem lc_all (emb : α → D) (f : α → D) {xs : List α} (hc : M c = none) (hn : xs.length ≤ sizeLine) (hok : ∀ acc, ok (mset M c (.ls acc)))
    (hs : ∀ x, x ∈ xs → ∀ (acc : List D), acc.length < sizeLine → ∀ nx : Mem → Prop, nx (mset M c (.ls (acc ++ [f x]))) →
      g (emb x) env (mset M c (.ls acc)) (fun env' M' => t env' M' (fun b M2 => if b = true then de env' M2 (fun y M3 => ∃ ys, M3 c = some (.ls ys) ∧ ys.length < sizeLine ∧ nx (mset M3 c (.ls (ys ++ [y])))) noX else nx M2) noX) (fun _ => noX))
    (hq : q (.lst (xs.map f)) M) : lcW ok g t de env q c (xs.map emb) (mset M c (.ls [])) :=
  lc_map emb (fun _ => true) f hc hn hok (fun x hx acc hz nx h1 _ => hs x hx acc hz nx (h1 rfl)) (by rw [List.filter_eq_self.mpr fun _ _ => rfl]; exact hq)
theorem lc2_map {di1 : DI} {g1 : GD} {t1 : DT} {vs1 : List Nat} (emb : α → D) (f : α → List D) {xs : List α} (hc : M c = none) (hn : (xs.flatMap f).length ≤ sizeLine) (hok : ∀ acc, ok (mset M c (.ls acc)))
    (hs : ∀ x, x ∈ xs → ∀ (acc : List D), acc.length + (f x).length ≤ sizeLine → ∀ nx : Mem → Prop, nx (mset M c (.ls (acc ++ f x))) →
      g (emb x) env (mset M c (.ls acc)) (fun env' M' => t env' M' (fun b M2 => if b = true then di1 env' M2 (fun items1 ok1 M3 => inW ok1 g1 t1 de (wipeD env' vs1) c (fun M4 => nx M4) items1 M3) noX else nx M2) noX) (fun _ => noX))
    (hq : q (.lst (xs.flatMap f)) M) : lc2W ok g t di1 g1 t1 de vs1 env q c (xs.map emb) (mset M c (.ls [])) := by
  refine lc2_lst (fun i M' => M' = mset M c (.ls ((xs.take i).flatMap f))) (fun M' e => ?_) (fun i x M' hx e nx hnx => ?_) _ (by rw [List.take_zero]; rfl)
  · subst e
    rw [List.length_map, List.take_length]
    refine ⟨hok _, _, mset_same, ?_⟩
    rw [mdel_mset hc]; exact hq
  · subst e
    rw [List.getElem?_map] at hx
    obtain ⟨y, hy, rfl⟩ := omap hx
    have hi := (List.getElem?_eq_some_iff.mp hy).1
    have e1 : xs.take (i + 1) = xs.take i ++ [y] := by rw [List.take_add_one, hy]; rfl
    have e2 : (xs.take (i + 1)).flatMap f = (xs.take i).flatMap f ++ f y := by rw [e1, List.flatMap_append]; simp
    refine ⟨hok _, hs y (List.mem_of_getElem? hy) _ ?_ nx (hnx _ (by rw [e2]))⟩
    rw [← List.length_append, ← e2]
    refine Nat.le_trans ?_ hn
    conv => rhs; rw [← List.take_append_drop (i + 1) xs, List.flatMap_append, List.length_append]
    omega
theorem in_map {nx0 : Mem → Prop} {acc : List D} (emb : β → D) (f : β → D) {xs : List β} (hn : acc.length + xs.length ≤ sizeLine) (hok : ∀ acc, ok (mset M c (.ls acc)))
    (hs : ∀ x, x ∈ xs → ∀ (acc : List D), acc.length < sizeLine → ∀ nx : Mem → Prop, nx (mset M c (.ls (acc ++ [f x]))) →
      g (emb x) env (mset M c (.ls acc)) (fun env' M' => t env' M' (fun b M2 => if b = true then de env' M2 (fun y M3 => ∃ ys, M3 c = some (.ls ys) ∧ ys.length < sizeLine ∧ nx (mset M3 c (.ls (ys ++ [y])))) noX else nx M2) noX) (fun _ => noX))
    (hq : nx0 (mset M c (.ls (acc ++ xs.map f)))) : inW ok g t de env c nx0 (xs.map emb) (mset M c (.ls acc)) := by
  refine in_lst (fun i M' => M' = mset M c (.ls (acc ++ (xs.take i).map f))) (fun M' e => ?_) (fun i x M' hx e nx hnx => ?_) _ (by rw [List.take_zero, List.map_nil, List.append_nil])
  · subst e
    rw [List.length_map, List.take_length]
    exact ⟨hok _, hq⟩
  · subst e
    rw [List.getElem?_map] at hx
    obtain ⟨y, hy, rfl⟩ := omap hx
    have hi := (List.getElem?_eq_some_iff.mp hy).1
    refine ⟨hok _, hs y (List.mem_of_getElem? hy) _ ?_ nx (hnx _ ?_)⟩
    · rw [List.length_append, List.length_map, List.length_take]; omega
    · rw [List.take_add_one, hy, List.map_append, List.append_assoc]; rfl
end
end DL
set_option maxRecDepth 100000
set_option maxHeartbeats 1000000
namespace R
open PySem PySem.Spec PyProof.Rows L2 DL
local macro_rules | `(tactic| bv_omega) => `(tactic| first | assumption | exact mset_same)
local macro_rules | `(tactic| symm) => `(tactic| first
  | ((with_reducible show ∃ _, _ = _ ∧ _); refine ⟨_, rfl, ?_⟩)
  | ((with_reducible show _ = _ ∧ _); refine ⟨rfl, ?_⟩)
  | ((with_reducible show ∃ _ _, _ = _ ∧ _ = _ ∧ _); refine ⟨_, _, rfl, rfl, ?_⟩)
  | ((with_reducible show ∃ _ _, _ = _ ∧ _); refine ⟨_, _, rfl, ?_⟩)
  | ((with_reducible show ∃ _ _ _, _ = _ ∧ _); refine ⟨_, _, _, rfl, ?_⟩)
  | ((with_reducible show (_ ≤ _ ∧ _) ∧ _); refine ⟨by omega, ?_⟩)
  | with_reducible refine add_int ?_ | with_reducible refine sub_int ?_
  | with_reducible refine lt_int ?_ | with_reducible refine le_int ?_ | with_reducible refine gt_int ?_ | with_reducible refine ge_int ?_
  | with_reducible refine int_int ?_
  | with_reducible refine eq_int ?_ | with_reducible refine ne_int ?_
  | with_reducible refine len_tup ?_ | with_reducible refine len_lst ?_
  | ((with_reducible show rdIx (.cel _) (.int _) _ _); refine ix_cel (by bv_omega) (by rfl) ?_)
  | ((with_reducible show rdIx (.lst _) (.int _) _ _); refine ix_lst (by rfl) ?_)
  | ((with_reducible show rdIx (.tup _) (.int _) _ _); refine ix_tup (by rfl) ?_)
  | ((with_reducible show rdLen [.cel _] _ _); refine len_cel (by bv_omega) ?_)
  | ((with_reducible show rdMul (.int _) (.int _) _ _); first | refine mul_l (by decide) (by decide) ?_ | refine mul_r (by decide) (by decide) ?_ | refine mul_l (by omega) (by omega) ?_ | refine mul_r (by omega) (by omega) ?_)
  | ((with_reducible show rdDiv (.int _) (.int _) _ _); refine div_int (by first | decide | assumption | omega) (by first | decide | assumption | omega) ?_)
  | ((with_reducible show rdDivmod [.int _, .int _] _ _); refine dm_int (by first | decide | assumption | omega) (by first | decide | assumption | omega) ?_)
  | ((with_reducible show @ite _ (_ = true) _ _ _); first | refine ifYes (by first | with_reducible rfl | exact Bool.not_false | assumption) ?_ | refine ifNo (by first | with_reducible rfl | exact Bool.not_true | assumption) ?_)
  | ((with_reducible show ∃ _, _ ∧ _); refine ⟨_, celL_of (by bv_omega), ?_⟩)
  | ((with_reducible show ∃ _ _ _ _, _ ∧ _ ∧ _ ∧ _ ∧ _); refine ⟨_, _, _, _, rfl, rfl, by bv_omega, by rfl, ?_⟩)
  | ((with_reducible show (_ : Nat) ≤ sizeLine ∧ _); refine ⟨by rw [sizeLine_eq]; exact Nat.le_of_ble_eq_true rfl, ?_⟩))
local macro_rules | `(tactic| infer_instance) => `(tactic| ((repeat symm); try dsimp only))
local macro_rules | `(tactic| ac_rfl) => `(tactic| ((repeat (first | symm | ((with_reducible show rdMod (.int _) (.int _) _ _); refine mod_any (by first | decide | assumption | omega) ?_; intro _ _ _))); try dsimp only))
theorem way_ex {size p : Int} : ∀ {ms : List Int}, ms ≠ [] → ∃ m, IsWay size p ms m := by
  intro ms hne
  have key : ∀ xs : List Int, xs ≠ [] → ∃ m ∈ xs, ∀ y ∈ xs, m ≤ y := by
    intro xs
    induction xs with
    | nil => intro h; exact absurd rfl h
    | cons a r ih =>
      intro _
      by_cases hr : r = []
      · subst hr; exact ⟨a, by simp, fun y hy => by rw [List.mem_singleton.mp hy]; exact Int.le_refl _⟩
      · obtain ⟨m, hm, hle⟩ := ih hr
        by_cases h : a ≤ m
        · exact ⟨a, by simp, fun y hy => by rcases List.mem_cons.mp hy with rfl | hy; exact Int.le_refl _; exact Int.le_trans h (hle y hy)⟩
        · exact ⟨m, List.mem_cons_of_mem _ hm, fun y hy => by rcases List.mem_cons.mp hy with rfl | hy; omega; exact hle y hy⟩
  obtain ⟨m, hm, hle⟩ := key (ms.map fun k => (k - p) % size) (by simpa using hne)
  exact ⟨m, hm, hle⟩
theorem walk_ex {size : Int} {hs : List Host} (hc : CrewOk size hs) (p : Int) : ∃ ns, WalkOf size p hs ns := by
  have hex : ∀ h ∈ hs, ∃ m, IsWay size p h.marks m := fun h hh => way_ex fun z => by have := (crew_marks hc h hh).ne; rw [z] at this; simp at this
  have key : ∀ l : List Host, (∀ h ∈ l, ∃ m, IsWay size p h.marks m) → ∃ ws : List (Int × Str), ws.map (·.2) = l.map (·.name) ∧ ∀ a ∈ ws, ∃ h ∈ l, h.name = a.2 ∧ IsWay size p h.marks a.1 := by
    intro l
    induction l with
    | nil => intro _; exact ⟨[], rfl, fun a ha => by simp at ha⟩
    | cons h l ih =>
      intro hh
      obtain ⟨ws, e, ha⟩ := ih fun x hx => hh x (List.mem_cons_of_mem _ hx)
      obtain ⟨m, hm⟩ := hh h (by simp)
      refine ⟨(m, h.name) :: ws, by simp [e], fun a haa => ?_⟩
      rcases List.mem_cons.mp haa with rfl | haa
      · exact ⟨h, by simp, rfl, hm⟩
      · obtain ⟨o, ho, z⟩ := ha a haa
        exact ⟨o, List.mem_cons_of_mem _ ho, z⟩
  obtain ⟨ws, e, ha⟩ := key hs hex
  have hp := List.mergeSort_perm ws (fun a b => decide (a.1 ≤ b.1))
  have hs2 := List.pairwise_mergeSort (le := fun a b : Int × Str => decide (a.1 ≤ b.1)) (fun a b c h1 h2 => by simp at h1 h2 ⊢; omega) (fun a b => by simp; omega) ws
  refine ⟨_, ws.mergeSort (fun a b => decide (a.1 ≤ b.1)), hs2.imp fun h => by simpa using h, rfl, ?_, fun a haa => ha a (hp.mem_iff.mp haa)⟩
  rw [← e]
  exact hp.map _
open Classical in
noncomputable def walkF (size : Int) (hs : List Host) (p : Int) : List Str := if h : ∃ ns, WalkOf size p hs ns then h.choose else []
theorem walkF_ok {size : Int} {hs : List Host} (hc : CrewOk size hs) (p : Int) : WalkOf size p hs (walkF size hs p) := by
  unfold walkF
  rw [dif_pos (walk_ex hc p)]
  exact (walk_ex hc p).choose_spec
theorem walk_eq {size : Int} {hs : List Host} (hc : CrewOk size hs) {p : Int} {ns : List Str} (h : WalkOf size p hs ns) : ns = walkF size hs p := walk_uniq hc h (walkF_ok hc p)
theorem mod_shift {size x d : Int} (s0 : 0 < size) (h0 : 0 ≤ d) (h : d ≤ x % size) : (x - d) % size = x % size - d := by
  have h1 := Int.emod_lt_of_pos x s0
  have h2 : x - d = (x % size - d) + size * (x / size) := by have := Int.emod_add_mul_ediv x size; omega
  rw [h2, Int.add_mul_emod_self_left]
  exact Int.emod_eq_of_lt (by omega) (by omega)
theorem way_shift {size p d : Int} (s0 : 0 < size) (h0 : 0 ≤ d) {ms : List Int} (hd : ∀ k ∈ ms, d ≤ (k - p) % size) {m : Int} (h : IsWay size p ms m) : IsWay size (p + d) ms (m - d) := by
  have key : ∀ k ∈ ms, (k - (p + d)) % size = (k - p) % size - d := fun k hk => by
    rw [show k - (p + d) = (k - p) - d by omega]; exact mod_shift s0 h0 (hd k hk)
  obtain ⟨h1, h2⟩ := h
  obtain ⟨k, hk, e⟩ := List.mem_map.mp h1
  refine ⟨List.mem_map.mpr ⟨k, hk, ?_⟩, fun y hy => ?_⟩
  · show (k - (p + d)) % size = m - d
    rw [key k hk]; omega
  · obtain ⟨j, hj, rfl⟩ := List.mem_map.mp hy
    have := h2 _ (List.mem_map.mpr ⟨j, hj, rfl⟩)
    show m - d ≤ (j - (p + d)) % size
    rw [key j hj]; omega
/-- no mark on the way: the same walk -/
theorem walk_shift {size p d : Int} (s0 : 0 < size) (h0 : 0 ≤ d) {hs : List Host} (hc : CrewOk size hs) (hd : ∀ h ∈ hs, ∀ k ∈ h.marks, d ≤ (k - p) % size) : walkF size hs (p + d) = walkF size hs p := by
  obtain ⟨ws, s1, e1, p1, a1⟩ := walkF_ok hc p
  symm
  refine walk_eq hc ⟨ws.map fun a => (a.1 - d, a.2), ?_, ?_, ?_, ?_⟩
  · rw [List.pairwise_map]; exact s1.imp fun h => by dsimp only; omega
  · rw [e1, List.map_map]; rfl
  · rw [List.map_map]; exact p1
  · intro a ha
    obtain ⟨b, hb, rfl⟩ := List.mem_map.mp ha
    obtain ⟨h, hh, en, w⟩ := a1 b hb
    exact ⟨h, hh, en, way_shift s0 h0 (hd h hh) w⟩
theorem walk_mod {size p : Int} {hs : List Host} (hc : CrewOk size hs) : walkF size hs (p + size) = walkF size hs p := by
  obtain ⟨ws, s1, e1, p1, a1⟩ := walkF_ok hc p
  symm
  refine walk_eq hc ⟨ws, s1, e1, p1, fun a ha => ?_⟩
  obtain ⟨h, hh, en, w⟩ := a1 a ha
  refine ⟨h, hh, en, ?_⟩
  have e : (fun k => (k - (p + size)) % size) = fun k => (k - p) % size := by
    funext k
    rw [show k - (p + size) = (k - p) + size * (-1) by omega, Int.add_mul_emod_self_left]
  unfold IsWay at w ⊢
  rw [e]; exact w
/-- at a mark: its host first, then the others as from behind it -/
theorem walk_front {size k : Int} (s1 : 1 ≤ size) {hs : List Host} (hc : CrewOk size hs) {h : Host} (hh : h ∈ hs) (hk : k ∈ h.marks) : walkF size hs k = h.name :: (walkF size hs (k + 1)).filter fun x => !decide (x = h.name) := by
  obtain ⟨ws, q1, e1, p1, a1⟩ := walkF_ok hc (k + 1)
  have k01 := (crew_marks hc h hh).inn k hk
  symm
  refine walk_eq hc ⟨(0, h.name) :: (ws.filter fun a => !decide (a.2 = h.name)).map fun a => (a.1 + 1, a.2), ?_, ?_, ?_, ?_⟩
  · refine .cons (fun a ha => ?_) ?_
    · obtain ⟨b, hb, rfl⟩ := List.mem_map.mp ha
      obtain ⟨o, ho, eo, w, _⟩ := a1 b (List.mem_filter.mp hb).1
      obtain ⟨j, hj, ej⟩ := List.mem_map.mp w
      have := Int.emod_nonneg (j - (k + 1)) (show size ≠ 0 by omega)
      dsimp only at ej ⊢; omega
    · rw [List.pairwise_map]; exact (q1.filter _).imp fun h => by dsimp only; omega
  · rw [e1, List.map_cons, List.map_map, List.filter_map]
    rfl
  · rw [List.map_cons, List.map_map]
    have hn := crew_nodup hc
    have nd : (ws.map (·.2)).Nodup := p1.nodup_iff.mpr hn
    have e2 : List.map ((fun a : Int × Str => a.2) ∘ fun a => (a.1 + 1, a.2)) (ws.filter fun a => !decide (a.2 = h.name)) = (ws.map (·.2)).filter fun x => !decide (x = h.name) := by
      rw [List.filter_map]; rfl
    rw [e2]
    have hm : h.name ∈ ws.map (·.2) := p1.mem_iff.mpr (List.mem_map.mpr ⟨h, hh, rfl⟩)
    refine List.Perm.trans ?_ p1
    refine (List.perm_ext_iff_of_nodup ?_ nd).mpr fun x => ?_
    · refine List.nodup_cons.mpr ⟨fun z => ?_, nd.filter _⟩
      have := (List.mem_filter.mp z).2
      simp at this
    · by_cases hx : x = h.name
      · subst hx; simp only [List.mem_cons, true_or, true_iff]; exact hm
      · simp [hx]
  · intro a ha
    rcases List.mem_cons.mp ha with rfl | ha
    · refine ⟨h, hh, rfl, List.mem_map.mpr ⟨k, hk, by simp⟩, fun y hy => ?_⟩
      obtain ⟨j, hj, rfl⟩ := List.mem_map.mp hy
      exact Int.emod_nonneg _ (by omega)
    · obtain ⟨b, hb, rfl⟩ := List.mem_map.mp ha
      obtain ⟨hb1, hb2⟩ := List.mem_filter.mp hb
      obtain ⟨o, ho, eo, w⟩ := a1 b hb1
      have hne : o ≠ h := fun e => by subst e; simp [eo] at hb2
      refine ⟨o, ho, eo, ?_⟩
      have hd : ∀ j ∈ o.marks, 1 ≤ (j - k) % size := fun j hj => by
        have h1 := Int.emod_nonneg (j - k) (show size ≠ 0 by omega)
        refine Decidable.byContradiction fun hn => hne ?_
        have e0 : (j - k) % size = (k - k) % size := by rw [show k - k = 0 by omega, Int.zero_emod]; omega
        have := mod_inj ((crew_marks hc o ho).inn j hj) k01 e0
        subst this
        exact crew_apart hc ho hh hj hk
      have key : ∀ j ∈ o.marks, (j - (k + 1)) % size = (j - k) % size - 1 := fun j hj => by
        rw [show j - (k + 1) = (j - k) - 1 by omega]; exact mod_shift (by omega) (by omega) (hd j hj)
      obtain ⟨w1, w2⟩ := w
      obtain ⟨j, hj, ej⟩ := List.mem_map.mp w1
      refine ⟨List.mem_map.mpr ⟨j, hj, ?_⟩, fun y hy => ?_⟩
      · have := key j hj
        dsimp only at ej ⊢; omega
      · obtain ⟨i, hi, rfl⟩ := List.mem_map.mp hy
        have h1 := w2 _ (List.mem_map.mpr ⟨i, hi, rfl⟩)
        have h2 := key i hi
        dsimp only at h1 ⊢; omega
/-- the keepers of a key -/
noncomputable def keepF (size : Int) (r : Rule) (hs : List Host) (p : Int) : List Str := keepersOf r hs (walkF size hs p)
def insA (a : Int) : List Int → List Int
  | [] => [a]
  | b :: r => if a < b then a :: b :: r else if a = b then b :: r else b :: insA a r
def ascF (xs : List Int) : List Int := xs.foldr insA []
theorem insA_mem {a x : Int} : ∀ {l : List Int}, x ∈ insA a l ↔ x = a ∨ x ∈ l
  | [] => by simp [insA]
  | b :: r => by
    unfold insA
    split
    · simp
    · split
      · rename_i h; subst h; simp
      · rw [List.mem_cons, insA_mem, List.mem_cons]
        constructor
        · rintro (h | h | h)
          · exact .inr (.inl h)
          · exact .inl h
          · exact .inr (.inr h)
        · rintro (h | h | h)
          · exact .inr (.inl h)
          · exact .inl h
          · exact .inr (.inr h)
theorem insA_pw {a : Int} : ∀ {l : List Int}, l.Pairwise (· < ·) → (insA a l).Pairwise (· < ·)
  | [], _ => by simp [insA]
  | b :: r, h => by
    unfold insA
    rw [List.pairwise_cons] at h
    split
    · rename_i hab
      refine List.pairwise_cons.mpr ⟨fun y hy => ?_, List.pairwise_cons.mpr h⟩
      rcases List.mem_cons.mp hy with rfl | hy
      · exact hab
      · exact Int.lt_trans hab (h.1 y hy)
    · split
      · exact List.pairwise_cons.mpr h
      · rename_i h1 h2
        refine List.pairwise_cons.mpr ⟨fun y hy => ?_, insA_pw h.2⟩
        rcases insA_mem.mp hy with rfl | hy
        · omega
        · exact h.1 y hy
theorem ascF_mem {x : Int} : ∀ {xs : List Int}, x ∈ ascF xs ↔ x ∈ xs
  | [] => by simp [ascF]
  | a :: r => by
    show x ∈ insA a (ascF r) ↔ _
    rw [insA_mem, ascF_mem (xs := r), List.mem_cons]
theorem ascF_pw : ∀ {xs : List Int}, (ascF xs).Pairwise (· < ·)
  | [] => by simp [ascF]
  | a :: r => by show (insA a (ascF r)).Pairwise _; exact insA_pw (ascF_pw (xs := r))
theorem insA_len {a : Int} : ∀ {l : List Int}, (insA a l).length ≤ l.length + 1
  | [] => by simp [insA]
  | b :: r => by
    unfold insA
    have := insA_len (a := a) (l := r)
    split
    · simp
    · split
      · simp
      · simp; omega
theorem ascF_len : ∀ {xs : List Int}, (ascF xs).length ≤ xs.length
  | [] => by simp [ascF]
  | a :: r => by
    show (insA a (ascF r)).length ≤ _
    have h1 := insA_len (a := a) (l := ascF r)
    have h2 := ascF_len (xs := r)
    rw [List.length_cons]; omega
theorem asc_uniq : ∀ {xs ys : List Int}, xs.Pairwise (· < ·) → ys.Pairwise (· < ·) → (∀ k, k ∈ xs ↔ k ∈ ys) → xs = ys := fun {xs ys} h1 h2 hm => by
  have n1 : xs.Nodup := h1.imp fun h => Int.ne_of_lt h
  have n2 : ys.Nodup := h2.imp fun h => Int.ne_of_lt h
  have hp : xs.Perm ys := (List.perm_ext_iff_of_nodup n1 n2).mpr hm
  exact sorted_uniq (W := id) hp h1 h2
/-- the marks of these hosts, ascending -/
def crewM (hs : List Host) : List Int := hs.flatMap (·.marks)
def allM (hs : List Host) : List Int := ascF (crewM hs)
theorem allM_mem {hs : List Host} {k : Int} : k ∈ allM hs ↔ ∃ h ∈ hs, k ∈ h.marks := by
  unfold allM crewM; rw [ascF_mem, List.mem_flatMap]
theorem asc_all {hs : List Host} {ms : List Int} (h : ms.Pairwise (· < ·)) (hm : ∀ k, k ∈ ms ↔ k ∈ crewM hs) : ms = allM hs := asc_uniq h ascF_pw fun k => (hm k).trans ascF_mem.symm
def partL (size : Int) : Int → List Int → List (Int × Int × Int)
  | _, [] => []
  | b, m :: r => ((b + 1) % size, (m - b - 1) % size + 1, m) :: partL size m r
def partF (size : Int) (ms : List Int) : List (Int × Int × Int) := partL size (ms.getLastD 0) ms
theorem partL_len {size : Int} : ∀ {b : Int} {ms : List Int}, (partL size b ms).length = ms.length
  | _, [] => rfl
  | _, m :: r => by show (partL size m r).length + 1 = r.length + 1; rw [partL_len]
theorem partL_edge {size : Int} : ∀ {b : Int} {ms : List Int}, (partL size b ms).map (·.2.2) = ms
  | _, [] => rfl
  | _, m :: r => by show m :: (partL size m r).map (·.2.2) = _; rw [partL_edge]
theorem partL_zip {size : Int} : ∀ {b : Int} {ms : List Int}, ((b :: ms).zip ms).map (fun p => ((p.1 + 1) % size, (p.2 - p.1 - 1) % size + 1, p.2)) = partL size b ms
  | _, [] => rfl
  | b, m :: r => by
    show (_, _, m) :: ((m :: r).zip r).map _ = _
    rw [partL_zip (b := m) (ms := r)]; rfl
/-- one cell, as the program tells it -/
noncomputable def cellD (size : Int) (r : Rule) (hs : List Host) (t : Int × Int × Int) : D := .tup [.int t.1, .int t.2.1, strsT (keepF size r hs t.2.2)]
noncomputable def cellsL (size : Int) (r : Rule) (hs : List Host) : List D := (partF size (allM hs)).map (cellD size r hs)
def sd_check_ring (C : Addr) : SpD := fun ds M q _ => ∃ (size : Int) (r : Rule) (hs : List Host), ds = [ringD C size r hs] ∧ q .non M
def sd_all_marks (C : Addr) : SpD := fun ds M q _ => ∃ hs : List Host, ds = [crewD hs] ∧ (crewM hs).length < 64 ∧ q (.lst ((allM hs).map D.int)) M
def sd_arcs_up_to (C : Addr) : SpD := fun ds M q _ => ∃ (ms : List Int) (size : Int), ds = [.lst (ms.map D.int), .int size] ∧ 0 < size ∧ ms ≠ [] ∧ ms.length ≤ 1000 ∧ q (.lst ((partF size ms).map fun t => .tup [.int t.1, .int t.2.1])) M
def sd_ahead (C : Addr) : SpD := fun ds M q _ => ∃ (x : Str) (ns : List Str), ds = [.str x, strsT ns] ∧ ns.length ≤ 12 ∧ q (strsT (x :: ns.filter fun y => !decide (y = x))) M
def sd_walks (C : Addr) : SpD := fun ds M q _ => ∃ (size : Int) (r : Rule) (hs : List Host), ds = [ringD C size r hs] ∧ 1 ≤ size ∧ CrewOk size hs ∧ ∀ M', Kept M M' → q (.lst ((allM hs).map fun m => .tup [.int m, strsT (walkF size hs m)])) M'
def sd_keepers_at (C : Addr) : SpD := fun ds M q _ => ∃ (size : Int) (r : Rule) (hs : List Host) (ks : List Int), ds = [ringD C size r hs, .lst (ks.map D.int)] ∧ 1 ≤ size ∧ CrewOk size hs ∧ RuleOk r ∧ ks.Pairwise (· < ·) ∧ (∀ k ∈ ks, 0 ≤ k ∧ k < size) ∧ (∀ k ∈ allM hs, k ∈ ks) ∧ ks.length ≤ 1000 ∧ ∀ M', Kept M M' → q (.lst (ks.map fun k => strsT (keepF size r hs k))) M'
def sd_cells (C : Addr) : SpD := fun ds M q _ => ∃ (size : Int) (r : Rule) (hs : List Host), ds = [ringD C size r hs] ∧ 1 ≤ size ∧ CrewOk size hs ∧ RuleOk r ∧ (crewM hs).length < 64 ∧ ∀ M', Kept M M' → q (.tup (cellsL size r hs)) M'
/-- how many keys the host keeps, leads -/
noncomputable def keptN (size : Int) (r : Rule) (hs : List Host) (x : Str) : Int := (((partF size (allM hs)).filter fun t => decide (x ∈ keepF size r hs t.2.2)).map (·.2.1)).sum
def sd_kept (C : Addr) : SpD := fun ds M q _ => ∃ (size : Int) (r : Rule) (hs : List Host) (x : Str), ds = [ringD C size r hs, .str x] ∧ 1 ≤ size ∧ CrewOk size hs ∧ RuleOk r ∧ (crewM hs).length < 64 ∧ x ∈ hs.map (·.name) ∧ ∀ M', Kept M M' → q (.int (keptN size r hs x)) M'
end R
set_option maxRecDepth 100000
namespace R
open PySem PySem.Spec PyProof.Rows L2 DL
abbrev N_all_marks : List Str := ["hosts", "_", "marks", "mark"]
def db_all_marks (C : Addr) : DS :=
    (dRet (dSortSet (dLc2 (dIter (dVar 0)) (gdTup 3 (gdCons (gdName 1) (gdCons (gdName 1) (gdCons (gdName 2) gdNil)))) dYes (dIter (dVar 2)) (gdName 3) dYes (dVar 3) [1, 1, 2, 3] [3])))
abbrev N_arcs_up_to : List Str := ["marks", "points", "befores", "before", "mark"]
def db_arcs_up_to (C : Addr) : DS :=
    (dSeq (dSet 2 (dOp rdAdd (dSl rdSl (dVar 0) (dPart (dUn rdNeg (dC (.int 1)))) dNo) (dSl rdSl (dVar 0) dNo (dPart (dUn rdNeg (dC (.int 1)))))))
    (dRet (dLc (dZip (dCons (dVar 2) (dCons (dVar 0) dNil))) (gdTup 2 (gdCons (gdName 3) (gdCons (gdName 4) gdNil))) dYes (dTup (dCons (dOp rdMod (dOp rdAdd (dVar 3) (dC (.int 1))) (dVar 1)) (dCons (dOp rdAdd (dOp rdMod (dOp rdSub (dOp rdSub (dVar 4) (dVar 3)) (dC (.int 1))) (dVar 1)) (dC (.int 1))) dNil))) [3, 4])))
abbrev N_check_ring : List Str := ["ring"]
def db_check_ring (C : Addr) : DS :=
    (dIfS (dNot (dTru (dIsiC C (dVar 0)))) dNever dNext)
abbrev N_ahead : List Str := ["name", "walk", "other"]
def db_ahead (C : Addr) : DS :=
    (dRet (dOp rdAdd (dTup (dCons (dVar 0) dNil)) (dCB rdTuple (dCons (dLc (dIter (dVar 1)) (gdName 2) (dTst (dOp rdNe (dVar 2) (dVar 0))) (dVar 2) [2]) dNil))))
abbrev N_walks : List Str := ["ring", "rows", "walk", "found", "mark", "name", "_", "marks"]
def db_walks (C : Addr) : DS :=
    (dSeq (dSet 1 (dSortPR (dLc2 (dIter (dProp C (sd_Ring_hosts C) (dVar 0))) (gdTup 3 (gdCons (gdName 5) (gdCons (gdName 6) (gdCons (gdName 7) gdNil)))) dYes (dIter (dVar 7)) (gdName 4) dYes (dTup (dCons (dVar 4) (dCons (dVar 5) dNil))) [5, 6, 7, 4] [4])))
    (dSeq (dSet 2 (dMeth C "walk" 2 (sd_Ring_walk C) (dVar 0) (dCons (dOp rdIx (dOp rdIx (dVar 1) (dC (.int 0))) (dC (.int 0))) dNil)))
    (dSeq (dSet 3 (dLstC dNil))
    (dSeq (dFor (dIter (dVar 1)) (gdTup 2 (gdCons (gdName 4) (gdCons (gdName 5) gdNil))) (dSeq (dSet 2 (dCall 2 (sd_ahead C) (dCons (dVar 5) (dCons (dVar 2) dNil))))
    (dExp (dApp (dVar 3) (dCons (dTup (dCons (dVar 4) (dCons (dVar 2) dNil))) dNil)))))
    (dRet (dRevL (dVar 3)))))))
abbrev N_keepers_at : List Str := ["ring", "marks", "rows", "own", "keepers", "found", "mark", "walk"]
def db_keepers_at (C : Addr) : DS :=
    (dSeq (dSet 2 (dLc (dIter (dCall 1 (sd_walks C) (dCons (dVar 0) dNil))) (gdTup 2 (gdCons (gdName 6) (gdCons (gdName 7) gdNil))) dYes (dTup (dCons (dVar 6) (dCons (dCall 2 (sd_keepers_in C) (dCons (dVar 0) (dCons (dVar 7) dNil))) dNil))) [6, 7]))
    (dSeq (dSet 3 (dCB rdDictC (dCons (dVar 2) dNil)))
    (dSeq (dSet 4 (dOp rdIx (dOp rdIx (dVar 2) (dC (.int 0))) (dC (.int 1))))
    (dSeq (dSet 5 (dLstC dNil))
    (dSeq (dFor (dIterRev (dCB rdList (dCons (dVar 1) dNil))) (gdName 6) (dSeq (dSet 4 (dDGet2 (dVar 3) (dVar 6) (dVar 4)))
    (dExp (dApp (dVar 5) (dCons (dVar 4) dNil)))))
    (dRet (dRevL (dVar 5))))))))
abbrev N_cells : List Str := ["ring", "marks", "arcs", "first", "many", "keepers"]
def db_cells (C : Addr) : DS :=
    (dSeq (dExp (dCall 1 (sd_check_ring C) (dCons (dVar 0) dNil)))
    (dSeq (dSet 1 (dCall 1 (sd_all_marks C) (dCons (dProp C (sd_Ring_hosts C) (dVar 0)) dNil)))
    (dSeq (dSet 2 (dCall 2 (sd_arcs_up_to C) (dCons (dVar 1) (dCons (dProp C (sd_Ring_points C) (dVar 0)) dNil))))
    (dRet (dCB rdTuple (dCons (dLc (dZip (dCons (dVar 2) (dCons (dCall 2 (sd_keepers_at C) (dCons (dVar 0) (dCons (dVar 1) dNil))) dNil))) (gdTup 2 (gdCons (gdTup 2 (gdCons (gdName 3) (gdCons (gdName 4) gdNil))) (gdCons (gdName 5) gdNil))) dYes (dTup (dCons (dVar 3) (dCons (dVar 4) (dCons (dVar 5) dNil)))) [5, 3, 4]) dNil))))))
abbrev N_kept : List Str := ["ring", "name", "_", "many", "keepers"]
def db_kept (C : Addr) : DS :=
    (dSeq (dExp (dCall 1 (sd_check_ring C) (dCons (dVar 0) dNil)))
    (dSeq (dExp (dCall 2 (sd_check_name C) (dCons (dVar 0) (dCons (dVar 1) dNil))))
    (dRet (dCB rdSum (dCons (dLc (dIter (dCall 1 (sd_cells C) (dCons (dVar 0) dNil))) (gdTup 3 (gdCons (gdName 2) (gdCons (gdName 3) (gdCons (gdName 4) gdNil)))) (dTst (dOp (rdIn false) (dVar 1) (dVar 4))) (dVar 3) [2, 3, 4]) dNil)))))
end R
set_option maxRecDepth 100000
set_option maxHeartbeats 1000000
namespace R
open PySem PySem.Spec PyProof.Rows L2 DL
local macro_rules | `(tactic| bv_omega) => `(tactic| first | assumption | exact mset_same)
local macro_rules | `(tactic| symm) => `(tactic| first
  | ((with_reducible show ∃ _, _ = _ ∧ _); refine ⟨_, rfl, ?_⟩)
  | ((with_reducible show _ = _ ∧ _); refine ⟨rfl, ?_⟩)
  | ((with_reducible show ∃ _ _, _ = _ ∧ _ = _ ∧ _); refine ⟨_, _, rfl, rfl, ?_⟩)
  | ((with_reducible show ∃ _ _, _ = _ ∧ _); refine ⟨_, _, rfl, ?_⟩)
  | ((with_reducible show ∃ _ _ _, _ = _ ∧ _); refine ⟨_, _, _, rfl, ?_⟩)
  | ((with_reducible show (_ ≤ _ ∧ _) ∧ _); refine ⟨by omega, ?_⟩)
  | with_reducible refine add_int ?_ | with_reducible refine sub_int ?_
  | with_reducible refine lt_int ?_ | with_reducible refine le_int ?_ | with_reducible refine gt_int ?_ | with_reducible refine ge_int ?_
  | with_reducible refine int_int ?_
  | with_reducible refine eq_int ?_ | with_reducible refine ne_int ?_
  | with_reducible refine len_tup ?_ | with_reducible refine len_lst ?_
  | ((with_reducible show rdIx (.cel _) (.int _) _ _); refine ix_cel (by bv_omega) (by rfl) ?_)
  | ((with_reducible show rdIx (.lst _) (.int _) _ _); refine ix_lst (by rfl) ?_)
  | ((with_reducible show rdIx (.tup _) (.int _) _ _); refine ix_tup (by rfl) ?_)
  | ((with_reducible show rdLen [.cel _] _ _); refine len_cel (by bv_omega) ?_)
  | ((with_reducible show rdMul (.int _) (.int _) _ _); first | refine mul_l (by decide) (by decide) ?_ | refine mul_r (by decide) (by decide) ?_ | refine mul_l (by omega) (by omega) ?_ | refine mul_r (by omega) (by omega) ?_)
  | ((with_reducible show rdDiv (.int _) (.int _) _ _); refine div_int (by first | decide | assumption | omega) (by first | decide | assumption | omega) ?_)
  | ((with_reducible show rdDivmod [.int _, .int _] _ _); refine dm_int (by first | decide | assumption | omega) (by first | decide | assumption | omega) ?_)
  | ((with_reducible show @ite _ (_ = true) _ _ _); first | refine ifYes (by first | with_reducible rfl | exact Bool.not_false | assumption) ?_ | refine ifNo (by first | with_reducible rfl | exact Bool.not_true | assumption) ?_)
  | ((with_reducible show ∃ _, _ ∧ _); refine ⟨_, celL_of (by bv_omega), ?_⟩)
  | ((with_reducible show ∃ _ _ _ _, _ ∧ _ ∧ _ ∧ _ ∧ _); refine ⟨_, _, _, _, rfl, rfl, by bv_omega, by rfl, ?_⟩)
  | ((with_reducible show (_ : Nat) ≤ sizeLine ∧ _); refine ⟨by rw [sizeLine_eq]; exact Nat.le_of_ble_eq_true rfl, ?_⟩))
local macro_rules | `(tactic| infer_instance) => `(tactic| ((repeat symm); try dsimp only))
local macro_rules | `(tactic| ac_rfl) => `(tactic| ((repeat (first | symm | ((with_reducible show rdMod (.int _) (.int _) _ _); refine mod_any (by first | decide | assumption | omega) ?_; intro _ _ _))); try dsimp only))
theorem kp_check_ring (C : Addr) : Keeps N_check_ring 1 (sd_check_ring C) (db_check_ring C) := by
  rintro ds M q ex hl ⟨size, r, hs, rfl, h⟩
  show db_check_ring C _ [some (ringD C size r hs)] M
  unfold db_check_ring
  infer_instance
  refine .inl ⟨⟨_, fs_ring⟩, ?_⟩
  infer_instance
  exact h
theorem marks_map (hs : List Host) : (hs.flatMap fun o => o.marks.map D.int) = (crewM hs).map D.int := by unfold crewM; rw [List.map_flatMap]
theorem kp_all_marks (C : Addr) : Keeps N_all_marks 1 (sd_all_marks C) (db_all_marks C) := by
  rintro ds M q ex hl ⟨hs, rfl, h64, h⟩
  show db_all_marks C _ [some (crewD hs), none, none, none] M
  unfold db_all_marks
  infer_instance
  intro c hc
  refine lc2_map hostD (fun o => o.marks.map D.int) hc (by rw [marks_map, List.length_map, sizeLine_eq]; omega) (fun _ => rfl) (fun o ho acc hz nx hnx => ?_) ?_
  · infer_instance
    rw [List.length_map] at hz
    refine in_map D.int D.int hz (fun _ => rfl) (fun m hm acc2 hz2 nx2 hnx2 => ?_) hnx
    infer_instance
    exact acc_put hz2 hnx2
  · rw [marks_map]
    refine ⟨_, crewM hs, rfl, ints_map _, h64, fun ms h1 h2 => ?_⟩
    rw [asc_all h1 h2]; exact h
theorem zip_drop {α : Type} : ∀ (b : α) (ms : List α), (b :: ms.dropLast).zip ms = (b :: ms).zip ms
  | _, [] => rfl
  | b, [m] => rfl
  | b, m :: n :: r => by
    show (b, m) :: ((n :: r).dropLast.cons m).zip (n :: r) = (b, m) :: (m :: n :: r).zip (n :: r)
    rw [zip_drop m (n :: r)]
theorem cut_last {α : Type} (xs : List α) (h : xs ≠ []) : DL.cutD xs (some (-1)) none = xs.drop (xs.length - 1) ∧ DL.cutD xs none (some (-1)) = xs.dropLast := by
  have hl : 1 ≤ xs.length := by cases xs with | nil => exact absurd rfl h | cons a r => simp
  have h1 : ∀ d, HT.sIx xs.length d (some (-1)) = xs.length - 1 := fun d => by
    have := HT.clip_eq (-1) xs.length d
    rw [if_pos (by decide)] at this
    omega
  unfold DL.cutD
  rw [h1, h1, HT.sIx_none, HT.sIx_none]
  refine ⟨?_, ?_⟩
  · rw [List.take_of_length_le (by rw [List.length_drop]; omega)]
  · rw [List.drop_zero, Nat.sub_zero, List.dropLast_eq_take]
theorem drop_last {α : Type} {xs : List α} (d : α) (h : xs ≠ []) : xs.drop (xs.length - 1) = [xs.getLastD d] := by
  have hl : 1 ≤ xs.length := by cases xs with | nil => exact absurd rfl h | cons a r => simp
  rw [List.drop_eq_getElem_cons (show xs.length - 1 < xs.length by omega), List.drop_of_length_le (by omega), List.getLastD_eq_getLast?, List.getLast?_eq_getElem?, List.getElem?_eq_getElem (by omega)]
  rfl
theorem neg_int {i : Int} {M : Mem} {q : QD} (w : q (.int (-i)) M) : rdNeg (.int i) M q := w
theorem kp_arcs_up_to (C : Addr) : Keeps N_arcs_up_to 2 (sd_arcs_up_to C) (db_arcs_up_to C) := by
  rintro ds M q ex hl ⟨ms, size, rfl, s0, hne, hlen, h⟩
  show db_arcs_up_to C _ [some (.lst (ms.map D.int)), some (.int size), none, none, none] M
  unfold db_arcs_up_to
  have hne2 : ms.map D.int ≠ [] := by simpa using hne
  obtain ⟨c1, c2⟩ := cut_last (ms.map D.int) hne2
  infer_instance
  refine neg_int ?_
  infer_instance
  refine ⟨_, rfl, ?_⟩
  rw [c1, List.length_map, ← List.map_drop, drop_last 0 hne]
  infer_instance
  refine neg_int ?_
  infer_instance
  refine ⟨_, rfl, ?_⟩
  rw [c2, ← List.map_dropLast]
  refine add_lst rfl rfl (by rw [List.length_map, List.length_map, List.length_dropLast, sizeLine_eq]; simp; omega) ?_
  rw [← List.map_append, List.singleton_append]
  infer_instance
  refine ⟨_, _, ((ms.getLastD 0 :: ms.dropLast).map D.int), ms.map D.int, rfl, .inr ⟨rfl, rfl, ?_⟩⟩
  intro c hc
  rw [zipD_map, zip_drop]
  refine lc_all (fun p : Int × Int => .tup [.int p.1, .int p.2]) (fun p => .tup [.int ((p.1 + 1) % size), .int ((p.2 - p.1 - 1) % size + 1)]) hc (by rw [List.length_zip, List.length_cons, sizeLine_eq]; omega) (fun _ => ⟨rfl, rfl⟩) (fun p hp acc hz nx hnx => ?_) ?_
  · infer_instance
    refine mod_int s0 ?_
    infer_instance
    refine mod_int s0 ?_
    infer_instance
    exact acc_put hz hnx
  · have e : (((ms.getLastD 0 :: ms).zip ms).map fun p : Int × Int => (.tup [.int ((p.1 + 1) % size), .int ((p.2 - p.1 - 1) % size + 1)] : D)) = (partF size ms).map fun t => .tup [.int t.1, .int t.2.1] := by
      unfold partF
      rw [← partL_zip, List.map_map]
      rfl
    rw [e]
    exact h
theorem kp_ahead (C : Addr) : Keeps N_ahead 2 (sd_ahead C) (db_ahead C) := by
  rintro ds M q ex hl ⟨x, ns, rfl, h12, h⟩
  show db_ahead C _ [some (.str x), some (strsT ns), none] M
  unfold db_ahead
  infer_instance
  intro c hc
  refine lc_map D.str (fun y => !decide (y = x)) D.str hc (by rw [sizeLine_eq]; omega) (fun _ => rfl) (fun y hy acc hz nx h1 h2 => ?_) ?_
  · infer_instance
    refine ne_strA ?_
    infer_instance
    refine ifB (fun e => ?_) (fun e => ?_)
    · infer_instance
      exact acc_put hz (h1 e)
    · exact h2 e
  · infer_instance
    refine ⟨_, _, rfl, rfl, ?_⟩
    refine add_tup (by rw [List.length_map, sizeLine_eq]; have := List.length_filter_le (fun y => !decide (y = x)) ns; simp; omega) ?_
    exact h
def ownPairs (hs : List Host) : List (Int × Str) := hs.flatMap fun o => o.marks.map fun m => (m, o.name)
theorem own_map (hs : List Host) : (hs.flatMap fun o => o.marks.map fun m => (.tup [.int m, .str o.name] : D)) = (ownPairs hs).map DL.pairD := by
  unfold ownPairs; rw [List.map_flatMap]
  simp only [List.map_map]
  rfl
theorem own_fst (hs : List Host) : (ownPairs hs).map (·.1) = crewM hs := by
  unfold ownPairs crewM; rw [List.map_flatMap]
  simp only [List.map_map]
  congr 1; funext o
  exact List.map_id _
theorem own_mem {hs : List Host} {p : Int × Str} : p ∈ ownPairs hs ↔ ∃ o ∈ hs, p.1 ∈ o.marks ∧ p.2 = o.name := by
  unfold ownPairs
  rw [List.mem_flatMap]
  constructor
  · rintro ⟨o, ho, h⟩
    obtain ⟨m, hm, rfl⟩ := List.mem_map.mp h
    exact ⟨o, ho, hm, rfl⟩
  · rintro ⟨o, ho, hm, e⟩
    exact ⟨o, ho, List.mem_map.mpr ⟨p.1, hm, Prod.ext rfl e.symm⟩⟩
theorem own_nd {size : Int} {hs : List Host} (hc : CrewOk size hs) : (crewM hs).Nodup := by
  have hp := crew_pw hc
  have hm := crew_marks hc
  unfold crewM
  clear hc
  induction hs with
  | nil => simp
  | cons o hs ih =>
    rw [List.flatMap_cons, List.nodup_append]
    rw [List.pairwise_cons] at hp
    refine ⟨(hm o (by simp)).asc.imp fun h => Int.ne_of_lt h, ih hp.2 fun x hx => hm x (List.mem_cons_of_mem _ hx), fun a ha b hb e => ?_⟩
    subst e
    obtain ⟨o', ho', hb'⟩ := List.mem_flatMap.mp hb
    exact (hp.1 o' ho').2 a hb' ha
theorem own_len {size : Int} {hs : List Host} (hc : CrewOk size hs) : (crewM hs).length ≤ 200 := by
  have h12 := hc.few
  have hm := crew_marks hc
  unfold crewM
  rw [List.length_flatMap]
  have := sum_le (l := hs) (f := fun o : Host => o.marks.length) (b := 16) fun o ho => (hm o ho).few
  omega
theorem own_ne {size : Int} {hs : List Host} (hc : CrewOk size hs) : crewM hs ≠ [] := by
  obtain ⟨o, ho⟩ := List.exists_mem_of_ne_nil _ hc.ne
  obtain ⟨m, hm⟩ : ∃ m, m ∈ o.marks := List.exists_mem_of_ne_nil _ fun z => by have := (crew_marks hc o ho).ne; rw [z] at this; simp at this
  exact List.ne_nil_of_mem (List.mem_flatMap.mpr ⟨o, ho, hm⟩)
theorem allM_ne {size : Int} {hs : List Host} (hc : CrewOk size hs) : allM hs ≠ [] := by
  obtain ⟨m, hm⟩ := List.exists_mem_of_ne_nil _ (own_ne hc)
  exact List.ne_nil_of_mem (ascF_mem.mpr hm)
theorem allM_in {size : Int} {hs : List Host} (hc : CrewOk size hs) {k : Int} (hk : k ∈ allM hs) : 0 ≤ k ∧ k < size := by
  obtain ⟨o, ho, hm⟩ := allM_mem.mp hk
  exact (crew_marks hc o ho).inn k hm
theorem allM_len {size : Int} {hs : List Host} (hc : CrewOk size hs) : (allM hs).length ≤ 200 := Nat.le_trans ascF_len (own_len hc)
/-- where the own marks lie, seen from p: none for d points -/
theorem free_way {size p d : Int} {hs : List Host} (s1 : 1 ≤ size) (hc : CrewOk size hs) (p0 : 0 ≤ p) (hpd : p < size) (hd : p + d < size) (h : ∀ k ∈ allM hs, k < p ∨ p + d ≤ k) : ∀ o ∈ hs, ∀ k ∈ o.marks, d ≤ (k - p) % size := fun o ho k hk => by
  have hk2 := (crew_marks hc o ho).inn k hk
  rcases h k (allM_mem.mpr ⟨o, ho, hk⟩) with z | z
  · have e : (k - p) % size = k - p + size := by
      have e2 : k - p = (k - p + size) + size * (-1) := by omega
      conv => lhs; rw [e2, Int.add_mul_emod_self_left]
      exact Int.emod_eq_of_lt (by omega) (by omega)
    omega
  · by_cases hz : p ≤ k
    · rw [Int.emod_eq_of_lt (by omega) (by omega)]; omega
    · have := Int.emod_nonneg (k - p) (show size ≠ 0 by omega); omega
theorem walk_same {size p d : Int} {hs : List Host} (s1 : 1 ≤ size) (hc : CrewOk size hs) (p0 : 0 ≤ p) (hpd : p < size) (d0 : 0 ≤ d) (hd : p + d < size) (h : ∀ k ∈ allM hs, k < p ∨ p + d ≤ k) : walkF size hs p = walkF size hs (p + d) :=
  (walk_shift (by omega) d0 hc (free_way s1 hc p0 hpd hd h)).symm
/-- no mark from here to the end: as at the first mark -/
theorem walk_wrap {size p l : Int} {hs : List Host} (s1 : 1 ≤ size) (hc : CrewOk size hs) (p0 : 0 ≤ p) (hpd : p ≤ size) (hl : l ∈ allM hs) (hmin : ∀ k ∈ allM hs, l ≤ k ∧ k < p) : walkF size hs p = walkF size hs l := by
  have hl2 := allM_in hc hl
  have hd : ∀ o ∈ hs, ∀ k ∈ o.marks, l + size - p ≤ (k - p) % size := fun o ho k hk => by
    have hk2 := (crew_marks hc o ho).inn k hk
    have := hmin k (allM_mem.mpr ⟨o, ho, hk⟩)
    have e : (k - p) % size = k - p + size := by
      have e2 : k - p = (k - p + size) + size * (-1) := by omega
      conv => lhs; rw [e2, Int.add_mul_emod_self_left]
      exact Int.emod_eq_of_lt (by omega) (by omega)
    omega
  have := walk_shift (p := p) (d := l + size - p) (by omega) (by omega) hc hd
  rw [show p + (l + size - p) = l + size by omega, walk_mod hc] at this
  exact this.symm
theorem filt_idem {x : Str} {l : List Str} : (x :: (l.filter fun y => !decide (y = x))).filter (fun y => !decide (y = x)) = l.filter fun y => !decide (y = x) := by
  rw [List.filter_cons, if_neg (by simp), List.filter_filter]
  congr 1
  funext y
  rw [Bool.and_self]
theorem head_walk {size k : Int} (s1 : 1 ≤ size) {hs : List Host} (hc : CrewOk size hs) {h : Host} (hh : h ∈ hs) (hk : k ∈ h.marks) : h.name :: ((walkF size hs k).filter fun x => !decide (x = h.name)) = walkF size hs k := by
  rw [walk_front s1 hc hh hk, filt_idem]
theorem walkF_len {size p : Int} {hs : List Host} (hc : CrewOk size hs) : (walkF size hs p).length = hs.length := walk_len (walkF_ok hc p)
theorem walkF_in {size p : Int} {hs : List Host} (hc : CrewOk size hs) : ∀ x ∈ walkF size hs p, x ∈ hs.map (·.name) := walk_in (walkF_ok hc p)
theorem lk_walkN {size : Int} {r : Rule} {hs : List Host} : (fieldsD size r hs).lookup ("walk" : Str) = none := by rfl
theorem desc_rev {ps : List (Int × Str)} {size : Int} {hs : List Host} (hc : CrewOk size hs) (hp : ps.Perm (ownPairs hs)) (hd : ps.Pairwise (fun a b => b.1 ≤ a.1)) : (ps.map (·.1)).reverse = allM hs ∧ ps.Pairwise (fun a b => b.1 < a.1) := by
  have hm : (ps.map (·.1)).Perm (crewM hs) := by rw [← own_fst]; exact hp.map _
  have hn : (ps.map (·.1)).Nodup := hm.nodup_iff.mpr (own_nd hc)
  have hst : ps.Pairwise (fun a b => b.1 < a.1) := by
    unfold List.Nodup at hn
    rw [List.pairwise_map] at hn
    exact (hn.and hd).imp fun ⟨h1, h2⟩ => by omega
  refine ⟨asc_all ?_ fun k => ?_, hst⟩
  · rw [List.pairwise_reverse, List.pairwise_map]; exact hst
  · rw [List.mem_reverse]; exact hm.mem_iff
theorem kp_walks (C : Addr) : Keeps N_walks 1 (sd_walks C) (db_walks C) := by
  rintro ds M q ex hl ⟨size, r, hs, rfl, s1, hc, h⟩
  show db_walks C _ [some (ringD C size r hs), none, none, none, none, none, none, none] M
  unfold db_walks
  have hf := hc.few
  infer_instance
  refine ⟨_, fs_ring, size, r, hs, rfl, ?_⟩
  infer_instance
  intro c hcn
  have hol := own_len hc
  have hpl : (ownPairs hs).length = (crewM hs).length := by rw [← own_fst, List.length_map]
  refine lc2_map hostD (fun o => o.marks.map fun m => (.tup [.int m, .str o.name] : D)) hcn (by rw [own_map, List.length_map, hpl, sizeLine_eq]; omega) (fun _ => rfl) (fun o ho acc hz nx hnx => ?_) ?_
  · infer_instance
    rw [List.length_map] at hz
    refine in_map D.int (fun m => .tup [.int m, .str o.name]) hz (fun _ => rfl) (fun m hm acc2 hz2 nx2 hnx2 => ?_) hnx
    infer_instance
    exact acc_put hz2 hnx2
  · rw [own_map]
    refine ⟨_, ownPairs hs, rfl, pairsD_map _, fun a ha b hb e => ?_, fun ps hp hd => ?_⟩
    · obtain ⟨o, ho, hm, e1⟩ := own_mem.mp ha
      obtain ⟨o', ho', hm', e1'⟩ := own_mem.mp hb
      rw [← e] at hm'
      rw [e1, e1', crew_apart hc ho ho' hm hm']
    · obtain ⟨hrev, hst⟩ := desc_rev hc hp hd
      have hlen : ps.length ≤ 200 := by rw [hp.length_eq, hpl]; exact hol
      cases ps with
      | nil =>
        have : ownPairs hs = [] := List.nil_perm.mp hp
        rw [this] at hpl
        exact absurd (List.eq_nil_of_length_eq_zero hpl.symm) (own_ne hc)
      | cons p0 ps0 =>
        have hmemp : ∀ p ∈ p0 :: ps0, ∃ o ∈ hs, p.1 ∈ o.marks ∧ p.2 = o.name := fun p hpm => own_mem.mp (hp.mem_iff.mp hpm)
        have hall : ∀ k, k ∈ allM hs ↔ k ∈ (p0 :: ps0).map (·.1) := fun k => by rw [← hrev, List.mem_reverse]
        infer_instance
        refine ⟨_, fs_ring, lk_walkN, ?_⟩
        rw [List.map_cons]
        infer_instance
        refine ix_lst atI_zero ?_
        refine ix_tup (xs := [.int p0.1, .str p0.2]) atI_zero ?_
        infer_instance
        obtain ⟨o0, ho0, hm0, en0⟩ := hmemp p0 (by simp)
        have hin0 := (crew_marks hc o0 ho0).inn p0.1 hm0
        refine ⟨size, r, hs, p0.1, rfl, hc, hin0.1, hin0.2, fun ns hw => ?_⟩
        have ew := walk_eq hc hw
        subst ew
        infer_instance
        intro c3 hc3
        infer_instance
        refine for_map DL.pairD (xs := p0 :: ps0) (fun i env M' => ∃ (w4 w5 w6 w7 : Option D) (w : List Str), M' = mset M c3 (.ls (((p0 :: ps0).take i).map fun p => .tup [.int p.1, strsT (walkF size hs p.1)])) ∧ env = [some (ringD C size r hs), some (.lst ((p0 :: ps0).map DL.pairD)), some (strsT w), some (.cel c3), w4, w5, w6, w7] ∧ w.length = hs.length ∧ ∀ p, (p0 :: ps0)[i]? = some p → p.2 :: (w.filter fun x => !decide (x = p.2)) = walkF size hs p.1) ?_ ?_ _ _ ⟨none, none, none, none, walkF size hs p0.1, rfl, rfl, walkF_len hc, fun p hp0 => ?_⟩
        · rintro env M' ⟨w4, w5, w6, w7, w, rfl, rfl, hwl, hw2⟩
          rw [List.take_length]
          refine ⟨rfl, ?_⟩
          infer_instance
          rw [← List.map_reverse]
          have e : (p0 :: ps0).reverse.map (fun p => (.tup [.int p.1, strsT (walkF size hs p.1)] : D)) = (allM hs).map fun m => .tup [.int m, strsT (walkF size hs m)] := by
            rw [← hrev, ← List.map_reverse, List.map_map]
            rfl
          rw [e]
          exact h _ (Kept.new hc3)
        · rintro i p env M' hx ⟨w4, w5, w6, w7, w, rfl, rfl, hwl, hw2⟩ nx hnx
          refine ⟨rfl, ?_⟩
          have hw3 := hw2 p hx
          have hi := (List.getElem?_eq_some_iff.mp hx).1
          unfold DL.pairD
          infer_instance
          refine ⟨_, _, rfl, by omega, ?_⟩
          rw [hw3]
          infer_instance
          refine ⟨_, _, rfl, mset_same, ?_⟩
          infer_instance
          refine ⟨_, _, rfl, mset_same, by rw [List.length_map, List.length_take, sizeLine_eq]; omega, hnx _ _ ⟨_, _, _, _, walkF size hs p.1, ?_, rfl, walkF_len hc, fun p' hp' => ?_⟩⟩
          · rw [mset_mset, List.take_add_one, hx, List.map_append]; rfl
          · obtain ⟨o, ho, hm, en⟩ := hmemp p (List.mem_of_getElem? hx)
            obtain ⟨o', ho', hm', en'⟩ := hmemp p' (List.mem_of_getElem? hp')
            have hin := (crew_marks hc o ho).inn _ hm
            have hin' := (crew_marks hc o' ho').inn _ hm'
            have hlt : p'.1 < p.1 := by
              have h1 := List.getElem?_eq_some_iff.mp hx
              have h2 := List.getElem?_eq_some_iff.mp hp'
              obtain ⟨a1, a2⟩ := h1
              obtain ⟨b1, b2⟩ := h2
              have := List.pairwise_iff_getElem.mp hst i (i + 1) a1 b1 (by omega)
              rw [a2, b2] at this
              exact this
            have hno : ∀ k ∈ allM hs, k < p'.1 + 1 ∨ p'.1 + 1 + (p.1 - (p'.1 + 1)) ≤ k := fun k hk => by
              obtain ⟨a, ha, rfl⟩ := List.mem_map.mp ((hall k).mp hk)
              obtain ⟨j, hj⟩ := List.getElem?_of_mem ha
              obtain ⟨a1, a2⟩ := List.getElem?_eq_some_iff.mp hx
              obtain ⟨b1, b2⟩ := List.getElem?_eq_some_iff.mp hp'
              obtain ⟨c1, c2⟩ := List.getElem?_eq_some_iff.mp hj
              by_cases hji : j ≤ i
              · right
                by_cases he : j = i
                · subst he; rw [a2] at c2; rw [← c2]; omega
                · have := List.pairwise_iff_getElem.mp hst j i c1 a1 (by omega)
                  rw [c2, a2] at this; omega
              · left
                by_cases he : j = i + 1
                · subst he; rw [b2] at c2; rw [← c2]; omega
                · have := List.pairwise_iff_getElem.mp hst (i + 1) j b1 c1 (by omega)
                  rw [c2, b2] at this; omega
            have hsame := walk_same (p := p'.1 + 1) (d := p.1 - (p'.1 + 1)) s1 hc (by omega) (by omega) (by omega) (by omega) hno
            rw [show p'.1 + 1 + (p.1 - (p'.1 + 1)) = p.1 by omega] at hsame
            rw [en', walk_front s1 hc ho' hm', hsame]
        · have : p = p0 := by simpa using hp0.symm
          subst this
          rw [en0]
          exact head_walk s1 hc ho0 hm0
end R
set_option maxRecDepth 100000
set_option maxHeartbeats 1000000
namespace R
open PySem PySem.Spec PyProof.Rows L2 DL
local macro_rules | `(tactic| bv_omega) => `(tactic| first | assumption | exact mset_same)
local macro_rules | `(tactic| symm) => `(tactic| first
  | ((with_reducible show ∃ _, _ = _ ∧ _); refine ⟨_, rfl, ?_⟩)
  | ((with_reducible show _ = _ ∧ _); refine ⟨rfl, ?_⟩)
  | ((with_reducible show ∃ _ _, _ = _ ∧ _ = _ ∧ _); refine ⟨_, _, rfl, rfl, ?_⟩)
  | ((with_reducible show ∃ _ _, _ = _ ∧ _); refine ⟨_, _, rfl, ?_⟩)
  | ((with_reducible show ∃ _ _ _, _ = _ ∧ _); refine ⟨_, _, _, rfl, ?_⟩)
  | ((with_reducible show (_ ≤ _ ∧ _) ∧ _); refine ⟨by omega, ?_⟩)
  | with_reducible refine add_int ?_ | with_reducible refine sub_int ?_
  | with_reducible refine lt_int ?_ | with_reducible refine le_int ?_ | with_reducible refine gt_int ?_ | with_reducible refine ge_int ?_
  | with_reducible refine int_int ?_
  | with_reducible refine eq_int ?_ | with_reducible refine ne_int ?_
  | with_reducible refine len_tup ?_ | with_reducible refine len_lst ?_
  | ((with_reducible show rdIx (.cel _) (.int _) _ _); refine ix_cel (by bv_omega) (by rfl) ?_)
  | ((with_reducible show rdIx (.lst _) (.int _) _ _); refine ix_lst (by rfl) ?_)
  | ((with_reducible show rdIx (.tup _) (.int _) _ _); refine ix_tup (by rfl) ?_)
  | ((with_reducible show rdLen [.cel _] _ _); refine len_cel (by bv_omega) ?_)
  | ((with_reducible show rdMul (.int _) (.int _) _ _); first | refine mul_l (by decide) (by decide) ?_ | refine mul_r (by decide) (by decide) ?_ | refine mul_l (by omega) (by omega) ?_ | refine mul_r (by omega) (by omega) ?_)
  | ((with_reducible show rdDiv (.int _) (.int _) _ _); refine div_int (by first | decide | assumption | omega) (by first | decide | assumption | omega) ?_)
  | ((with_reducible show rdDivmod [.int _, .int _] _ _); refine dm_int (by first | decide | assumption | omega) (by first | decide | assumption | omega) ?_)
  | ((with_reducible show @ite _ (_ = true) _ _ _); first | refine ifYes (by first | with_reducible rfl | exact Bool.not_false | assumption) ?_ | refine ifNo (by first | with_reducible rfl | exact Bool.not_true | assumption) ?_)
  | ((with_reducible show ∃ _, _ ∧ _); refine ⟨_, celL_of (by bv_omega), ?_⟩)
  | ((with_reducible show ∃ _ _ _ _, _ ∧ _ ∧ _ ∧ _ ∧ _); refine ⟨_, _, _, _, rfl, rfl, by bv_omega, by rfl, ?_⟩)
  | ((with_reducible show (_ : Nat) ≤ sizeLine ∧ _); refine ⟨by rw [sizeLine_eq]; exact Nat.le_of_ble_eq_true rfl, ?_⟩))
local macro_rules | `(tactic| infer_instance) => `(tactic| ((repeat symm); try dsimp only))
local macro_rules | `(tactic| ac_rfl) => `(tactic| ((repeat (first | symm | ((with_reducible show rdMod (.int _) (.int _) _ _); refine mod_any (by first | decide | assumption | omega) ?_; intro _ _ _))); try dsimp only))
theorem keepF_L {size p : Int} {r : Rule} {hs : List Host} (hc : CrewOk size hs) (hr : RuleOk r) : keepF size r hs p = keepL r hs (walkF size hs p) := (keep_same hr (walk_nd hc (walkF_ok hc p))).symm
theorem keepF_in {size p : Int} {r : Rule} {hs : List Host} (hc : CrewOk size hs) (hr : RuleOk r) : ∀ x ∈ keepF size r hs p, x ∈ hs.map (·.name) := fun x hx => by
  rw [keepF_L hc hr] at hx
  exact walkF_in hc x ((keep_in hr).2 x hx)
theorem keepF_len {size p : Int} {r : Rule} {hs : List Host} (hr : RuleOk r) : (keepF size r hs p).length ≤ 5 := by
  unfold keepF keepersOf
  rw [List.length_take]
  have := hr.w
  omega
theorem kvs_marks (f : Int → D) : ∀ ms : List Int, kvsD (ms.map fun m => (.tup [.int m, f m] : D)) = some (ms.map fun m => ((Sum.inl m : Key), f m))
  | [] => rfl
  | m :: r => by
    show (match keyD (.int m), kvsD (r.map fun m => (.tup [.int m, f m] : D)) with | some k, some r => some ((k, f m) :: r) | _, _ => none) = _
    rw [kvs_marks f r]; rfl
theorem own_at {f : Int → D} {ms : List Int} (hn : ms.Nodup) {k : Int} : getK (mergeD [] (ms.map fun m => ((Sum.inl m : Key), f m))) (.inl k) = if k ∈ ms then some (f k) else none := by
  have hn2 : ((ms.map fun m => ((Sum.inl m : Key), f m)).map (·.1)).Nodup := by
    rw [List.map_map]
    unfold List.Nodup at hn ⊢
    rw [List.pairwise_map]
    exact hn.imp fun h e => h (Sum.inl.inj e)
  by_cases h : k ∈ ms
  · rw [if_pos h]
    exact merge_at hn2 (List.mem_map.mpr ⟨k, h, rfl⟩)
  · rw [if_neg h, merge_no]
    · rfl
    · intro z
      obtain ⟨p, hp, e⟩ := List.mem_map.mp z
      obtain ⟨m, hm, rfl⟩ := List.mem_map.mp hp
      exact h (by rw [← Sum.inl.inj e]; exact hm)
theorem kp_keepers_at (C : Addr) : Keeps N_keepers_at 2 (sd_keepers_at C) (db_keepers_at C) := by
  rintro ds M q ex hl ⟨size, r, hs, ks, rfl, s1, hc, hr, hpw, hin, hsub, hlen, h⟩
  show db_keepers_at C _ [some (ringD C size r hs), some (.lst (ks.map D.int)), none, none, none, none, none, none] M
  unfold db_keepers_at
  have hf := hc.few
  have hal := allM_len hc
  infer_instance
  refine ⟨size, r, hs, rfl, s1, hc, fun M1 hk1 => ?_⟩
  infer_instance
  intro c hcn
  refine lc_lst (fun i M' => ∃ M2, Kept M M2 ∧ M2 c = none ∧ M' = mset M2 c (.ls (((allM hs).take i).map fun m => (.tup [.int m, strsT (keepF size r hs m)] : D)))) ?_ ?_ _ ⟨M1, hk1, hcn, rfl⟩
  · rintro M' ⟨M2, hk2, hc2, rfl⟩
    rw [List.length_map, List.take_length]
    refine ⟨rfl, _, mset_same, ?_⟩
    rw [mdel_mset hc2]
    infer_instance
    refine ⟨_, _, _, rfl, rfl, kvs_marks _ (allM hs), fun a ha => ?_⟩
    have hK : Kept M (mset M2 a (.dc (mergeD [] ((allM hs).map fun m => ((Sum.inl m : Key), strsT (keepF size r hs m)))))) := hk2.trans (Kept.new ha)
    have hA : (mset M2 a (.dc (mergeD [] ((allM hs).map fun m => ((Sum.inl m : Key), strsT (keepF size r hs m)))))) a = some (.dc _) := mset_same
    generalize mset M2 a (.dc (mergeD [] ((allM hs).map fun m => ((Sum.inl m : Key), strsT (keepF size r hs m))))) = M3 at *
    obtain ⟨l0, ls, el⟩ : ∃ l0 ls, allM hs = l0 :: ls := by
      cases e : allM hs with
      | nil => exact absurd e (allM_ne hc)
      | cons a b => exact ⟨a, b, rfl⟩
    have hl0 : l0 ∈ allM hs := by rw [el]; exact List.mem_cons_self
    have hmin : ∀ k ∈ allM hs, l0 ≤ k := fun k hk => by
      have hp := ascF_pw (xs := crewM hs)
      have hp2 : (allM hs).Pairwise (· < ·) := hp
      rw [el] at hp2 hk
      rcases List.mem_cons.mp hk with rfl | hk
      · exact Int.le_refl _
      · exact Int.le_of_lt ((List.pairwise_cons.mp hp2).1 k hk)
    infer_instance
    rw [el, List.map_cons]
    refine ix_lst atI_zero ?_
    refine ix_tup (xs := [.int l0, strsT (keepF size r hs l0)]) (atI_nat (n := 1) rfl) ?_
    infer_instance
    intro c3 hc3
    infer_instance
    refine ⟨_, _, rfl, rfl, ?_⟩
    infer_instance
    rw [← List.map_reverse]
    have hnd : (allM hs).Nodup := (ascF_pw (xs := crewM hs)).imp fun h => Int.ne_of_lt h
    have hA3 : a ≠ c3 := fun e => by rw [e] at hA; rw [hc3] at hA; cases hA
    refine for_map D.int (xs := ks.reverse) (fun i env M' => ∃ (w6 w7 : Option D) (v : List Str), M' = mset M3 c3 (.ls ((ks.reverse.take i).map fun k => strsT (keepF size r hs k))) ∧ env = [some (ringD C size r hs), some (.lst (ks.map D.int)), some (.lst ((l0 :: ls).map fun m => (.tup [.int m, strsT (keepF size r hs m)] : D))), some (.cel a), some (strsT v), some (.cel c3), w6, w7] ∧ ∀ k, ks.reverse[i]? = some k → k ∉ allM hs → keepF size r hs k = v) ?_ ?_ _ _ ⟨none, none, keepF size r hs l0, rfl, rfl, fun k hk hno => ?_⟩
    · rintro env M' ⟨w6, w7, v, rfl, rfl, hv⟩
      rw [List.take_length]
      refine ⟨rfl, ?_⟩
      infer_instance
      rw [← List.map_reverse, List.reverse_reverse]
      exact h _ (hK.trans (Kept.new hc3))
    · rintro i k env M' hx ⟨w6, w7, v, rfl, rfl, hv⟩ nx hnx
      refine ⟨rfl, ?_⟩
      have hi := (List.getElem?_eq_some_iff.mp hx).1
      rw [List.length_reverse] at hi
      infer_instance
      refine ⟨_, _, rfl, by rw [mset_ne hA3]; exact hA, ?_⟩
      infer_instance
      refine ⟨_, _, by rw [mset_ne hA3]; exact hA, rfl, ?_⟩
      rw [own_at hnd]
      have ev : ((if k ∈ allM hs then some (strsT (keepF size r hs k)) else none).getD (strsT v)) = strsT (keepF size r hs k) := by
        by_cases hk : k ∈ allM hs
        · rw [if_pos hk]; rfl
        · rw [if_neg hk, hv k hx hk]; rfl
      rw [ev]
      infer_instance
      refine ⟨_, _, rfl, mset_same, ?_⟩
      infer_instance
      refine ⟨_, _, rfl, mset_same, by rw [List.length_map, List.length_take, sizeLine_eq]; omega, hnx _ _ ⟨_, _, keepF size r hs k, ?_, rfl, fun k' hk' hno => ?_⟩⟩
      · rw [mset_mset, List.take_add_one, hx, List.map_append]; rfl
      · -- the next lower one
        obtain ⟨a1, a2⟩ := List.getElem?_eq_some_iff.mp hx
        obtain ⟨b1, b2⟩ := List.getElem?_eq_some_iff.mp hk'
        have hkin : k ∈ ks := List.mem_reverse.mp (List.mem_of_getElem? hx)
        have hkin' : k' ∈ ks := List.mem_reverse.mp (List.mem_of_getElem? hk')
        have hdesc : ks.reverse.Pairwise (fun a b => b < a) := by rw [List.pairwise_reverse]; exact hpw
        have hlt : k' < k := by
          have := List.pairwise_iff_getElem.mp hdesc i (i + 1) a1 b1 (by omega)
          rw [a2, b2] at this; exact this
        have hbet : ∀ j ∈ allM hs, j < k' ∨ k' + (k - k') ≤ j := fun j hj => by
          obtain ⟨n, hn⟩ := List.getElem?_of_mem (List.mem_reverse.mpr (hsub j hj))
          obtain ⟨c1, c2⟩ := List.getElem?_eq_some_iff.mp hn
          by_cases hni : n ≤ i
          · right
            by_cases he : n = i
            · subst he; rw [a2] at c2; omega
            · have := List.pairwise_iff_getElem.mp hdesc n i c1 a1 (by omega)
              rw [c2, a2] at this; omega
          · left
            by_cases he : n = i + 1
            · subst he; rw [b2] at c2; rw [← c2] at hj; exact absurd hj hno
            · have := List.pairwise_iff_getElem.mp hdesc (i + 1) n b1 c1 (by omega)
              rw [c2, b2] at this; omega
        have h1 := hin k hkin
        have h2 := hin k' hkin'
        have := walk_same (p := k') (d := k - k') s1 hc h2.1 h2.2 (by omega) (by omega) hbet
        unfold keepF
        rw [this, show k' + (k - k') = k by omega]
    · -- the greatest one
      have hkin : k ∈ ks := List.mem_reverse.mp (List.mem_of_getElem? hk)
      have hdesc : ks.reverse.Pairwise (fun a b => b < a) := by rw [List.pairwise_reverse]; exact hpw
      obtain ⟨a1, a2⟩ := List.getElem?_eq_some_iff.mp hk
      have hmax : ∀ j ∈ allM hs, l0 ≤ j ∧ j < k := fun j hj => by
        refine ⟨hmin j hj, ?_⟩
        obtain ⟨n, hn⟩ := List.getElem?_of_mem (List.mem_reverse.mpr (hsub j hj))
        obtain ⟨c1, c2⟩ := List.getElem?_eq_some_iff.mp hn
        by_cases he : n = 0
        · subst he; rw [a2] at c2; rw [← c2] at hj; exact absurd hj hno
        · have := List.pairwise_iff_getElem.mp hdesc 0 n a1 c1 (by omega)
          rw [c2, a2] at this; exact this
      have h1 := hin k hkin
      unfold keepF
      rw [walk_wrap s1 hc h1.1 (by omega) hl0 hmax]
  · rintro i x M' hx ⟨M2, hk2, hc2, rfl⟩ nx hnx
    refine ⟨rfl, ?_⟩
    rw [List.getElem?_map] at hx
    obtain ⟨m, hm, rfl⟩ := omap hx
    have hi := (List.getElem?_eq_some_iff.mp hm).1
    infer_instance
    refine ⟨size, r, hs, walkF size hs m, rfl, hc, hr, by rw [walkF_len hc]; exact hf, walkF_in hc, fun M3 hk3 => ?_⟩
    infer_instance
    refine ⟨_, hk3 _ _ mset_same, by rw [List.length_map, List.length_take, sizeLine_eq]; omega, hnx _ ⟨mdel M3 c, ?_, ?_, ?_⟩⟩
    · exact fun b z hb => by
        have hbc : b ≠ c := fun e => by rw [e] at hb; rw [hk2 _ _ hb] at hc2; cases hc2
        unfold mdel
        rw [if_neg hbc]
        exact hk3 _ _ (by rw [mset_ne hbc]; exact hk2 _ _ hb)
    · unfold mdel; rw [if_pos rfl]
    · rw [List.take_add_one, hm, List.map_append]
      funext b
      unfold mset mdel
      by_cases e : b = c
      · rw [if_pos e, if_pos e]; rfl
      · rw [if_neg e, if_neg e, if_neg e]
end R
set_option maxRecDepth 100000
set_option maxHeartbeats 1000000
namespace R
open PySem PySem.Spec PyProof.Rows L2 DL
local macro_rules | `(tactic| bv_omega) => `(tactic| first | assumption | exact mset_same)
local macro_rules | `(tactic| symm) => `(tactic| first
  | ((with_reducible show ∃ _, _ = _ ∧ _); refine ⟨_, rfl, ?_⟩)
  | ((with_reducible show _ = _ ∧ _); refine ⟨rfl, ?_⟩)
  | ((with_reducible show ∃ _ _, _ = _ ∧ _ = _ ∧ _); refine ⟨_, _, rfl, rfl, ?_⟩)
  | ((with_reducible show ∃ _ _, _ = _ ∧ _); refine ⟨_, _, rfl, ?_⟩)
  | ((with_reducible show ∃ _ _ _, _ = _ ∧ _); refine ⟨_, _, _, rfl, ?_⟩)
  | ((with_reducible show (_ ≤ _ ∧ _) ∧ _); refine ⟨by omega, ?_⟩)
  | with_reducible refine add_int ?_ | with_reducible refine sub_int ?_
  | with_reducible refine lt_int ?_ | with_reducible refine le_int ?_ | with_reducible refine gt_int ?_ | with_reducible refine ge_int ?_
  | with_reducible refine int_int ?_
  | with_reducible refine eq_int ?_ | with_reducible refine ne_int ?_
  | with_reducible refine len_tup ?_ | with_reducible refine len_lst ?_
  | ((with_reducible show rdIx (.cel _) (.int _) _ _); refine ix_cel (by bv_omega) (by rfl) ?_)
  | ((with_reducible show rdIx (.lst _) (.int _) _ _); refine ix_lst (by rfl) ?_)
  | ((with_reducible show rdIx (.tup _) (.int _) _ _); refine ix_tup (by rfl) ?_)
  | ((with_reducible show rdLen [.cel _] _ _); refine len_cel (by bv_omega) ?_)
  | ((with_reducible show rdMul (.int _) (.int _) _ _); first | refine mul_l (by decide) (by decide) ?_ | refine mul_r (by decide) (by decide) ?_ | refine mul_l (by omega) (by omega) ?_ | refine mul_r (by omega) (by omega) ?_)
  | ((with_reducible show rdDiv (.int _) (.int _) _ _); refine div_int (by first | decide | assumption | omega) (by first | decide | assumption | omega) ?_)
  | ((with_reducible show rdDivmod [.int _, .int _] _ _); refine dm_int (by first | decide | assumption | omega) (by first | decide | assumption | omega) ?_)
  | ((with_reducible show @ite _ (_ = true) _ _ _); first | refine ifYes (by first | with_reducible rfl | exact Bool.not_false | assumption) ?_ | refine ifNo (by first | with_reducible rfl | exact Bool.not_true | assumption) ?_)
  | ((with_reducible show ∃ _, _ ∧ _); refine ⟨_, celL_of (by bv_omega), ?_⟩)
  | ((with_reducible show ∃ _ _ _ _, _ ∧ _ ∧ _ ∧ _ ∧ _); refine ⟨_, _, _, _, rfl, rfl, by bv_omega, by rfl, ?_⟩)
  | ((with_reducible show (_ : Nat) ≤ sizeLine ∧ _); refine ⟨by rw [sizeLine_eq]; exact Nat.le_of_ble_eq_true rfl, ?_⟩))
local macro_rules | `(tactic| infer_instance) => `(tactic| ((repeat symm); try dsimp only))
local macro_rules | `(tactic| ac_rfl) => `(tactic| ((repeat (first | symm | ((with_reducible show rdMod (.int _) (.int _) _ _); refine mod_any (by first | decide | assumption | omega) ?_; intro _ _ _))); try dsimp only))
theorem zip_edge {α β : Type} (f : α → β) : ∀ l : List α, l.zip (l.map f) = l.map fun x => (x, f x)
  | [] => rfl
  | x :: l => by show (x, f x) :: l.zip (l.map f) = _; rw [zip_edge f l]; rfl
theorem partF_len {size : Int} {ms : List Int} : (partF size ms).length = ms.length := partL_len
theorem partF_edge {size : Int} {ms : List Int} : (partF size ms).map (·.2.2) = ms := partL_edge
theorem kp_cells (C : Addr) : Keeps N_cells 1 (sd_cells C) (db_cells C) := by
  rintro ds M q ex hl ⟨size, r, hs, rfl, s1, hc, hr, h64, h⟩
  show db_cells C _ [some (ringD C size r hs), none, none, none, none, none] M
  unfold db_cells
  have hal := allM_len hc
  infer_instance
  refine ⟨size, r, hs, rfl, ?_⟩
  infer_instance
  refine ⟨_, fs_ring, size, r, hs, rfl, ?_⟩
  infer_instance
  refine ⟨hs, rfl, h64, ?_⟩
  infer_instance
  refine ⟨_, fs_ring, size, r, hs, rfl, ?_⟩
  infer_instance
  refine ⟨allM hs, size, rfl, by omega, allM_ne hc, by omega, ?_⟩
  infer_instance
  refine ⟨size, r, hs, allM hs, rfl, s1, hc, hr, ascF_pw, fun k hk => allM_in hc hk, fun k hk => hk, by omega, fun M' hK => ?_⟩
  infer_instance
  refine ⟨_, _, _, _, rfl, .inr ⟨rfl, rfl, ?_⟩⟩
  intro c hcn
  rw [zipD_map]
  have e1 : (partF size (allM hs)).zip (allM hs) = (partF size (allM hs)).map fun t => (t, t.2.2) := by
    conv => lhs; rw [← partF_edge (size := size) (ms := allM hs)]
    rw [partF_edge]
    conv => lhs; arg 2; rw [← partF_edge (size := size) (ms := allM hs)]
    exact zip_edge _ _
  rw [e1, List.map_map]
  refine lc_all ((fun p : (Int × Int × Int) × Int => (.tup [.tup [.int p.1.1, .int p.1.2.1], strsT (keepF size r hs p.2)] : D)) ∘ fun t => (t, t.2.2)) (cellD size r hs) hcn (by rw [partF_len, sizeLine_eq]; omega) (fun _ => ⟨rfl, rfl⟩) (fun t ht acc hz nx hnx => ?_) ?_
  · show gdTup 2 _ (.tup [.tup [.int t.1, .int t.2.1], strsT (keepF size r hs t.2.2)]) _ _ _ _
    infer_instance
    exact acc_put hz hnx
  · infer_instance
    refine ⟨_, _, rfl, rfl, ?_⟩
    exact h M' hK
/-- the manys of some cells, added -/
theorem cells_sum {α : Type} {env : EnvD} {t : DT} {de : DE} {q : QD} {M : Mem} {g : GD} {size : Int} {r : Rule} {hs : List Host} {c : Addr} {ok : Mem → Prop} (p : Int × Int × Int → Bool) (hc : M c = none) (hl : (partF size (allM hs)).length ≤ 1000) (hok : ∀ acc, ok (mset M c (.ls acc)))
    (hs2 : ∀ x, x ∈ partF size (allM hs) → ∀ (acc : List D), acc.length < sizeLine → ∀ nx : Mem → Prop, (p x = true → nx (mset M c (.ls (acc ++ [.int x.2.1])))) → (p x = false → nx (mset M c (.ls acc))) →
      g (cellD size r hs x) env (mset M c (.ls acc)) (fun env' M' => t env' M' (fun b M2 => if b = true then de env' M2 (fun y M3 => ∃ ys, M3 c = some (.ls ys) ∧ ys.length < sizeLine ∧ nx (mset M3 c (.ls (ys ++ [y])))) noX else nx M2) noX) (fun _ => noX))
    (hq : q (.int (((partF size (allM hs)).filter p).map (·.2.1)).sum) M) : lcW ok g t de env (fun x M1 => rdSum [x] M1 q) c (cellsL size r hs) (mset M c (.ls [])) := by
  refine lc_map (cellD size r hs) p (fun x => .int x.2.1) hc (by rw [sizeLine_eq]; omega) hok hs2 ?_
  refine ⟨_, _, ((partF size (allM hs)).filter p).map (·.2.1), rfl, rfl, ?_, hq⟩
  have := DL.ints_map (((partF size (allM hs)).filter p).map (·.2.1))
  rw [List.map_map] at this
  exact this
theorem kp_kept (C : Addr) : Keeps N_kept 2 (sd_kept C) (db_kept C) := by
  rintro ds M q ex hl ⟨size, r, hs, x, rfl, s1, hc, hr, h64, hx, h⟩
  show db_kept C _ [some (ringD C size r hs), some (.str x), none, none, none] M
  unfold db_kept
  have hal := allM_len hc
  infer_instance
  refine ⟨size, r, hs, rfl, ?_⟩
  infer_instance
  refine ⟨size, r, hs, x, rfl, hc.few, hx, ?_⟩
  infer_instance
  refine ⟨size, r, hs, rfl, s1, hc, hr, h64, fun M' hK => ?_⟩
  infer_instance
  intro c hcn
  refine cells_sum (α := Unit) (fun t => decide (x ∈ keepF size r hs t.2.2)) hcn (by rw [partF_len]; omega) (fun _ => rfl) (fun t ht acc hz nx h1 h2 => ?_) (h M' hK)
  show gdTup 3 _ (.tup [.int t.1, .int t.2.1, strsT (keepF size r hs t.2.2)]) _ _ _ _
  infer_instance
  refine in_str rfl ?_
  infer_instance
  refine ifB (fun e => ?_) (fun e => ?_)
  · infer_instance
    exact acc_put hz (h1 e)
  · exact h2 e
end R
set_option maxRecDepth 100000
set_option maxHeartbeats 1000000
namespace R
open PySem PySem.Spec PyProof.Rows L2 DL
local macro_rules | `(tactic| bv_omega) => `(tactic| first | assumption | exact mset_same)
local macro_rules | `(tactic| symm) => `(tactic| first
  | ((with_reducible show ∃ _, _ = _ ∧ _); refine ⟨_, rfl, ?_⟩)
  | ((with_reducible show _ = _ ∧ _); refine ⟨rfl, ?_⟩)
  | ((with_reducible show ∃ _ _, _ = _ ∧ _ = _ ∧ _); refine ⟨_, _, rfl, rfl, ?_⟩)
  | ((with_reducible show ∃ _ _, _ = _ ∧ _); refine ⟨_, _, rfl, ?_⟩)
  | ((with_reducible show ∃ _ _ _, _ = _ ∧ _); refine ⟨_, _, _, rfl, ?_⟩)
  | ((with_reducible show (_ ≤ _ ∧ _) ∧ _); refine ⟨by omega, ?_⟩)
  | with_reducible refine add_int ?_ | with_reducible refine sub_int ?_
  | with_reducible refine lt_int ?_ | with_reducible refine le_int ?_ | with_reducible refine gt_int ?_ | with_reducible refine ge_int ?_
  | with_reducible refine int_int ?_
  | with_reducible refine eq_int ?_ | with_reducible refine ne_int ?_
  | with_reducible refine len_tup ?_ | with_reducible refine len_lst ?_
  | ((with_reducible show rdIx (.cel _) (.int _) _ _); refine ix_cel (by bv_omega) (by rfl) ?_)
  | ((with_reducible show rdIx (.lst _) (.int _) _ _); refine ix_lst (by rfl) ?_)
  | ((with_reducible show rdIx (.tup _) (.int _) _ _); refine ix_tup (by rfl) ?_)
  | ((with_reducible show rdLen [.cel _] _ _); refine len_cel (by bv_omega) ?_)
  | ((with_reducible show rdMul (.int _) (.int _) _ _); first | refine mul_l (by decide) (by decide) ?_ | refine mul_r (by decide) (by decide) ?_ | refine mul_l (by omega) (by omega) ?_ | refine mul_r (by omega) (by omega) ?_)
  | ((with_reducible show rdDiv (.int _) (.int _) _ _); refine div_int (by first | decide | assumption | omega) (by first | decide | assumption | omega) ?_)
  | ((with_reducible show rdDivmod [.int _, .int _] _ _); refine dm_int (by first | decide | assumption | omega) (by first | decide | assumption | omega) ?_)
  | ((with_reducible show @ite _ (_ = true) _ _ _); first | refine ifYes (by first | with_reducible rfl | exact Bool.not_false | assumption) ?_ | refine ifNo (by first | with_reducible rfl | exact Bool.not_true | assumption) ?_)
  | ((with_reducible show ∃ _, _ ∧ _); refine ⟨_, celL_of (by bv_omega), ?_⟩)
  | ((with_reducible show ∃ _ _ _ _, _ ∧ _ ∧ _ ∧ _ ∧ _); refine ⟨_, _, _, _, rfl, rfl, by bv_omega, by rfl, ?_⟩)
  | ((with_reducible show (_ : Nat) ≤ sizeLine ∧ _); refine ⟨by rw [sizeLine_eq]; exact Nat.le_of_ble_eq_true rfl, ?_⟩))
local macro_rules | `(tactic| infer_instance) => `(tactic| ((repeat symm); try dsimp only))
local macro_rules | `(tactic| ac_rfl) => `(tactic| ((repeat (first | symm | ((with_reducible show rdMod (.int _) (.int _) _ _); refine mod_any (by first | decide | assumption | omega) ?_; intro _ _ _))); try dsimp only))
theorem nodup_asc {ns : List Int} (h : ns.Pairwise (· ≤ ·)) (hn : ns.Nodup) : ns.Pairwise (· < ·) := by
  refine (List.pairwise_and_iff.mpr ⟨h, hn⟩).imp fun {a b} hab => ?_
  have h1 := hab.1
  have h2 : a ≠ b := hab.2
  omega
end R
set_option maxRecDepth 100000
set_option maxHeartbeats 1000000
namespace R
open PySem PySem.Spec PyProof.Rows L2 DL
local macro_rules | `(tactic| bv_omega) => `(tactic| first | assumption | exact mset_same)
local macro_rules | `(tactic| symm) => `(tactic| first
  | ((with_reducible show ∃ _, _ = _ ∧ _); refine ⟨_, rfl, ?_⟩)
  | ((with_reducible show _ = _ ∧ _); refine ⟨rfl, ?_⟩)
  | ((with_reducible show ∃ _ _, _ = _ ∧ _ = _ ∧ _); refine ⟨_, _, rfl, rfl, ?_⟩)
  | ((with_reducible show ∃ _ _, _ = _ ∧ _); refine ⟨_, _, rfl, ?_⟩)
  | ((with_reducible show ∃ _ _ _, _ = _ ∧ _); refine ⟨_, _, _, rfl, ?_⟩)
  | ((with_reducible show (_ ≤ _ ∧ _) ∧ _); refine ⟨by omega, ?_⟩)
  | with_reducible refine add_int ?_ | with_reducible refine sub_int ?_
  | with_reducible refine lt_int ?_ | with_reducible refine le_int ?_ | with_reducible refine gt_int ?_ | with_reducible refine ge_int ?_
  | with_reducible refine int_int ?_
  | with_reducible refine eq_int ?_ | with_reducible refine ne_int ?_
  | with_reducible refine len_tup ?_ | with_reducible refine len_lst ?_
  | ((with_reducible show rdIx (.cel _) (.int _) _ _); refine ix_cel (by bv_omega) (by rfl) ?_)
  | ((with_reducible show rdIx (.lst _) (.int _) _ _); refine ix_lst (by rfl) ?_)
  | ((with_reducible show rdIx (.tup _) (.int _) _ _); refine ix_tup (by rfl) ?_)
  | ((with_reducible show rdLen [.cel _] _ _); refine len_cel (by bv_omega) ?_)
  | ((with_reducible show rdMul (.int _) (.int _) _ _); first | refine mul_l (by decide) (by decide) ?_ | refine mul_r (by decide) (by decide) ?_ | refine mul_l (by omega) (by omega) ?_ | refine mul_r (by omega) (by omega) ?_)
  | ((with_reducible show rdDiv (.int _) (.int _) _ _); refine div_int (by first | decide | assumption | omega) (by first | decide | assumption | omega) ?_)
  | ((with_reducible show rdDivmod [.int _, .int _] _ _); refine dm_int (by first | decide | assumption | omega) (by first | decide | assumption | omega) ?_)
  | ((with_reducible show @ite _ (_ = true) _ _ _); first | refine ifYes (by first | with_reducible rfl | exact Bool.not_false | assumption) ?_ | refine ifNo (by first | with_reducible rfl | exact Bool.not_true | assumption) ?_)
  | ((with_reducible show ∃ _, _ ∧ _); refine ⟨_, celL_of (by bv_omega), ?_⟩)
  | ((with_reducible show ∃ _ _ _ _, _ ∧ _ ∧ _ ∧ _ ∧ _); refine ⟨_, _, _, _, rfl, rfl, by bv_omega, by rfl, ?_⟩)
  | ((with_reducible show (_ : Nat) ≤ sizeLine ∧ _); refine ⟨by rw [sizeLine_eq]; exact Nat.le_of_ble_eq_true rfl, ?_⟩))
local macro_rules | `(tactic| infer_instance) => `(tactic| ((repeat symm); try dsimp only))
local macro_rules | `(tactic| ac_rfl) => `(tactic| ((repeat (first | symm | ((with_reducible show rdMod (.int _) (.int _) _ _); refine mod_any (by first | decide | assumption | omega) ?_; intro _ _ _))); try dsimp only))
theorem mod_fst {size p b : Int} : (p - (b + 1) % size) % size = (p - b - 1) % size := by
  have h : p - (b + 1) % size = (p - b - 1) + size * ((b + 1) / size) := by have := Int.emod_add_mul_ediv (b + 1) size; omega
  rw [h, Int.add_mul_emod_self_left]
theorem mod_lo {size x : Int} (h0 : 0 ≤ x) (h1 : x < size) : x % size = x := Int.emod_eq_of_lt h0 h1
theorem mod_up {size x : Int} (h0 : -size ≤ x) (h1 : x < 0) : x % size = x + size := by
  have e : x = (x + size) + size * (-1) := by omega
  conv => lhs; rw [e, Int.add_mul_emod_self_left]
  exact Int.emod_eq_of_lt (by omega) (by omega)
def inCell (size p : Int) (t : Int × Int × Int) : Bool := decide ((p - t.1) % size < t.2.1)
theorem in_next {size p b m : Int} (p0 : 0 ≤ p) (p1 : p < size) (b0 : 0 ≤ b) (hbm : b < m) (m1 : m < size) : inCell size p ((b + 1) % size, (m - b - 1) % size + 1, m) = decide (b < p ∧ p ≤ m) := by
  unfold inCell
  dsimp only
  rw [mod_fst, mod_lo (x := m - b - 1) (by omega) (by omega)]
  by_cases h : b < p
  · rw [mod_lo (x := p - b - 1) (by omega) (by omega)]
    exact decide_eq_decide.mpr ⟨fun h2 => ⟨h, by omega⟩, fun h2 => by omega⟩
  · rw [mod_up (x := p - b - 1) (by omega) (by omega)]
    exact decide_eq_decide.mpr ⟨fun h2 => by omega, fun h2 => by omega⟩
theorem in_first {size p b m : Int} (p0 : 0 ≤ p) (p1 : p < size) (m0 : 0 ≤ m) (hbm : m ≤ b) (b1 : b < size) : inCell size p ((b + 1) % size, (m - b - 1) % size + 1, m) = decide (b < p ∨ p ≤ m) := by
  unfold inCell
  dsimp only
  rw [mod_fst, mod_up (x := m - b - 1) (by omega) (by omega)]
  by_cases h : b < p
  · rw [mod_lo (x := p - b - 1) (by omega) (by omega)]
    exact decide_eq_decide.mpr ⟨fun h2 => .inl h, fun h2 => by omega⟩
  · rw [mod_up (x := p - b - 1) (by omega) (by omega)]
    exact decide_eq_decide.mpr ⟨fun h2 => .inr (by omega), fun h2 => by omega⟩
theorem part_no {size p : Int} (p0 : 0 ≤ p) (p1 : p < size) : ∀ {ms : List Int} {b : Int}, 0 ≤ b → (b :: ms).Pairwise (· < ·) → (∀ m ∈ ms, m < size) → p ≤ b → (partL size b ms).filter (inCell size p) = []
  | [], b, _, _, _, _ => rfl
  | m :: r, b, b0, hp, hm, h => by
    rw [List.pairwise_cons] at hp
    have hbm := hp.1 m (by simp)
    show (((b + 1) % size, (m - b - 1) % size + 1, m) :: partL size m r).filter _ = []
    rw [List.filter_cons, in_next p0 p1 b0 hbm (hm m (by simp)), if_neg (by simp; omega)]
    exact part_no p0 p1 (by omega) hp.2 (fun x hx => hm x (List.mem_cons_of_mem _ hx)) (by omega)
theorem part_one {size p : Int} (p0 : 0 ≤ p) (p1 : p < size) : ∀ {ms : List Int} {b : Int}, 0 ≤ b → (b :: ms).Pairwise (· < ·) → (∀ m ∈ ms, m < size) → b < p → ((∀ m ∈ ms, m < p) ∧ (partL size b ms).filter (inCell size p) = []) ∨ ∃ t ∈ partL size b ms, (partL size b ms).filter (inCell size p) = [t] ∧ p ≤ t.2.2 ∧ t.2.2 ∈ ms ∧ ∀ m ∈ ms, m < p ∨ t.2.2 ≤ m
  | [], b, _, _, _, _ => .inl ⟨fun m hm => by simp at hm, rfl⟩
  | m :: r, b, b0, hp, hm, h => by
    rw [List.pairwise_cons] at hp
    have hbm := hp.1 m (by simp)
    have hm1 := hm m (by simp)
    have hr := List.pairwise_cons.mp hp.2
    have e : (partL size b (m :: r)).filter (inCell size p) = if p ≤ m then ((b + 1) % size, (m - b - 1) % size + 1, m) :: (partL size m r).filter (inCell size p) else (partL size m r).filter (inCell size p) := by
      show (((b + 1) % size, (m - b - 1) % size + 1, m) :: partL size m r).filter _ = _
      rw [List.filter_cons, in_next p0 p1 b0 hbm hm1]
      by_cases hpm : p ≤ m
      · rw [if_pos (by simp; omega), if_pos hpm]
      · rw [if_neg (by simp; omega), if_neg hpm]
    by_cases hpm : p ≤ m
    · right
      refine ⟨((b + 1) % size, (m - b - 1) % size + 1, m), List.mem_cons_self, ?_, hpm, List.mem_cons_self, fun x hx => ?_⟩
      · rw [e, if_pos hpm, part_no p0 p1 (by omega) hp.2 (fun x hx => hm x (List.mem_cons_of_mem _ hx)) hpm]
      · rcases List.mem_cons.mp hx with rfl | hx
        · exact .inr (Int.le_refl _)
        · exact .inr (Int.le_of_lt (hr.1 x hx))
    · rw [e, if_neg hpm]
      rcases part_one p0 p1 (ms := r) (b := m) (by omega) hp.2 (fun x hx => hm x (List.mem_cons_of_mem _ hx)) (by omega) with ⟨h1, h2⟩ | ⟨t, h1, h2, h3, h4, h5⟩
      · left
        refine ⟨fun x hx => ?_, h2⟩
        rcases List.mem_cons.mp hx with rfl | hx
        · omega
        · exact h1 x hx
      · right
        refine ⟨t, List.mem_cons_of_mem _ h1, h2, h3, List.mem_cons_of_mem _ h4, fun x hx => ?_⟩
        rcases List.mem_cons.mp hx with rfl | hx
        · exact .inl (by omega)
        · exact h5 x hx
theorem last_mem {ms : List Int} (h : ms ≠ []) : ms.getLastD 0 ∈ ms := by
  cases ms with
  | nil => exact absurd rfl h
  | cons a r => rw [List.getLastD_cons]; simp [List.getLastD_eq_getLast?]; cases r with
    | nil => left; rfl
    | cons b s => right; rw [List.getLast?_eq_some_getLast (by simp)]; exact List.getLast_mem _
theorem last_max : ∀ {ms : List Int}, ms.Pairwise (· < ·) → ∀ m ∈ ms, m ≤ ms.getLastD 0
  | [], _, m, hm => by simp at hm
  | [a], _, m, hm => by rw [List.mem_singleton.mp hm]; exact Int.le_refl _
  | a :: b :: r, hp, m, hm => by
    rw [List.pairwise_cons] at hp
    have e : (a :: b :: r).getLastD 0 = (b :: r).getLastD 0 := by simp [List.getLastD_cons]
    rw [e]
    rcases List.mem_cons.mp hm with rfl | hm
    · have h1 := hp.1 b (by simp)
      have h2 := last_max hp.2 b (by simp)
      omega
    · exact last_max hp.2 m hm
/-- each key lies in one cell, and has its walk -/
theorem cell_one {size p : Int} {hs : List Host} (s1 : 1 ≤ size) (hc : CrewOk size hs) (p0 : 0 ≤ p) (p1 : p < size) : ∃ t ∈ partF size (allM hs), (partF size (allM hs)).filter (inCell size p) = [t] ∧ walkF size hs t.2.2 = walkF size hs p := by
  have hpw : (allM hs).Pairwise (· < ·) := ascF_pw
  have hin : ∀ k ∈ allM hs, 0 ≤ k ∧ k < size := fun k hk => allM_in hc hk
  have hne := allM_ne hc
  have key : ∀ ms : List Int, ms = allM hs → ∃ t ∈ partF size ms, (partF size ms).filter (inCell size p) = [t] ∧ walkF size hs t.2.2 = walkF size hs p := by
    intro ms e
    cases ms with
    | nil => exact absurd e.symm hne
    | cons m r =>
      rw [← e] at hpw hin
      have hlm := last_mem (ms := m :: r) (by simp)
      have hmax := last_max hpw
      have hp2 := List.pairwise_cons.mp hpw
      have hm := hin m (by simp)
      have hl := hin _ hlm
      have hml := hmax m (by simp)
      have hmr : ∀ x ∈ r, x < size := fun x hx => (hin x (List.mem_cons_of_mem _ hx)).2
      unfold partF
      generalize hL : (m :: r).getLastD 0 = L at *
      have e1 : (partL size L (m :: r)).filter (inCell size p) = if L < p ∨ p ≤ m then ((L + 1) % size, (m - L - 1) % size + 1, m) :: (partL size m r).filter (inCell size p) else (partL size m r).filter (inCell size p) := by
        show (((L + 1) % size, (m - L - 1) % size + 1, m) :: partL size m r).filter _ = _
        rw [List.filter_cons, in_first p0 p1 hm.1 hml hl.2]
        by_cases h : L < p ∨ p ≤ m
        · rw [if_pos (decide_eq_true h), if_pos h]
        · rw [if_neg (by simp; omega), if_neg h]
      by_cases hpm : p ≤ m
      · refine ⟨((L + 1) % size, (m - L - 1) % size + 1, m), List.mem_cons_self, ?_, ?_⟩
        · rw [e1, if_pos (.inr hpm), part_no p0 p1 hm.1 hpw hmr hpm]
        · have := walk_same (p := p) (d := m - p) s1 hc p0 p1 (by omega) (by omega) fun k hk => by
            rw [← e] at hk
            rcases List.mem_cons.mp hk with rfl | hk
            · right; omega
            · right; have := hp2.1 k hk; omega
          rw [this, show p + (m - p) = m by omega]
      · by_cases hpl : L < p
        · refine ⟨((L + 1) % size, (m - L - 1) % size + 1, m), List.mem_cons_self, ?_, ?_⟩
          · rcases part_one p0 p1 (ms := r) hm.1 hpw hmr (by omega) with ⟨h1, h2⟩ | ⟨t, h1, h2, h3, h4, h5⟩
            · rw [e1, if_pos (.inl hpl), h2]
            · have := hmax _ (List.mem_cons_of_mem _ h4); omega
          · refine (walk_wrap s1 hc p0 (by omega) (l := m) (by rw [← e]; simp) fun k hk => ?_).symm
            rw [← e] at hk
            have h1 := hmax k hk
            refine ⟨?_, by omega⟩
            rcases List.mem_cons.mp hk with rfl | hk
            · exact Int.le_refl _
            · exact Int.le_of_lt (hp2.1 k hk)
        · rcases part_one p0 p1 (ms := r) hm.1 hpw hmr (by omega) with ⟨h1, h2⟩ | ⟨t, h1, h2, h3, h4, h5⟩
          · exfalso
            rcases List.mem_cons.mp hlm with z | z
            · omega
            · have := h1 _ z; omega
          · refine ⟨t, List.mem_cons_of_mem _ h1, ?_, ?_⟩
            · rw [e1, if_neg (by omega), h2]
            · have ht := hmr _ h4
              have := walk_same (p := p) (d := t.2.2 - p) s1 hc p0 p1 (by omega) (by omega) fun k hk => by
                rw [← e] at hk
                rcases List.mem_cons.mp hk with rfl | hk
                · left; omega
                · rcases h5 k hk with z | z
                  · left; exact z
                  · right; omega
              rw [this, show p + (t.2.2 - p) = t.2.2 by omega]
  exact key _ rfl
theorem cell_keep {size p : Int} {r : Rule} {hs : List Host} (s1 : 1 ≤ size) (hc : CrewOk size hs) (p0 : 0 ≤ p) (p1 : p < size) : ∃ t ∈ partF size (allM hs), (partF size (allM hs)).filter (inCell size p) = [t] ∧ keepF size r hs t.2.2 = keepF size r hs p := by
  obtain ⟨t, h1, h2, h3⟩ := cell_one s1 hc p0 p1
  exact ⟨t, h1, h2, by unfold keepF; rw [h3]⟩
def sumTo (f : Int → Int) : Nat → Int
  | 0 => 0
  | n + 1 => sumTo f n + f (n : Nat)
theorem sumTo_const {f : Int → Int} {c : Int} (a : Nat) : ∀ k : Nat, (∀ p : Int, (a : Int) ≤ p → p < (a : Int) + k → f p = c) → sumTo f (a + k) = sumTo f a + k * c
  | 0, _ => by simp
  | k + 1, h => by
    have ih := sumTo_const a k fun p h1 h2 => h p h1 (by omega)
    show sumTo f (a + k) + f ((a + k : Nat) : Int) = _
    rw [ih, h _ (by omega) (by omega)]
    have : ((k + 1 : Nat) : Int) * c = (k : Int) * c + c := by rw [Int.natCast_add, Int.add_mul]; simp
    omega
theorem sumTo_iv {f : Int → Int} {c : Int} {a b : Int} (a0 : 0 ≤ a) (hab : a ≤ b) (h : ∀ p : Int, a ≤ p → p < b → f p = c) : sumTo f b.toNat = sumTo f a.toNat + (b - a) * c := by
  have := sumTo_const (f := f) (c := c) a.toNat (b - a).toNat fun p h1 h2 => h p (by omega) (by omega)
  rw [show a.toNat + (b - a).toNat = b.toNat by omega] at this
  rw [this, show (((b - a).toNat : Nat) : Int) = b - a by omega]
def wsum (c : Int → Int) (l : List (Int × Int × Int)) : Int := (l.map fun t => t.2.1 * c t.2.2).sum
theorem part_sum {size : Int} {f c : Int → Int} : ∀ {ms : List Int} {b : Int}, 0 ≤ b → (b :: ms).Pairwise (· < ·) → (∀ m ∈ ms, m < size) → (∀ p : Int, b < p → p < size → ∀ m ∈ ms, p ≤ m → (∀ k ∈ ms, k < p ∨ m ≤ k) → f p = c m) →
    wsum c (partL size b ms) = sumTo f ((b :: ms).getLastD 0 + 1).toNat - sumTo f (b + 1).toNat
  | [], b, _, _, _, _ => by simp [wsum, partL]
  | m :: r, b, b0, hp, hm, h => by
    rw [List.pairwise_cons] at hp
    have hbm := hp.1 m (by simp)
    have hm1 := hm m (by simp)
    have hr := List.pairwise_cons.mp hp.2
    have ih := part_sum (f := f) (c := c) (ms := r) (b := m) (by omega) hp.2 (fun x hx => hm x (List.mem_cons_of_mem _ hx)) fun p h1 h2 k hk h3 h4 => h p (by omega) h2 k (List.mem_cons_of_mem _ hk) h3 fun j hj => by
      rcases List.mem_cons.mp hj with rfl | hj
      · exact .inl h1
      · exact h4 j hj
    have e1 : wsum c (partL size b (m :: r)) = ((m - b - 1) % size + 1) * c m + wsum c (partL size m r) := by
      show (((((b + 1) % size, (m - b - 1) % size + 1, m) :: partL size m r).map _).sum) = _
      rw [List.map_cons, List.sum_cons]; rfl
    have e2 : (b :: m :: r).getLastD 0 = (m :: r).getLastD 0 := by simp [List.getLastD_cons]
    have e3 := sumTo_iv (f := f) (c := c m) (a := b + 1) (b := m + 1) (by omega) (by omega) fun p h1 h2 => h p (by omega) (by omega) m (by simp) (by omega) fun k hk => by
      rcases List.mem_cons.mp hk with rfl | hk
      · exact .inr (Int.le_refl _)
      · exact .inr (Int.le_of_lt (hr.1 k hk))
    rw [e1, ih, e2, mod_lo (x := m - b - 1) (by omega) (by omega), e3]
    rw [show m - b - 1 + 1 = m + 1 - (b + 1) by omega]
    omega
/-- what is the same for all keys of a cell, added up over all keys -/
theorem cells_sumTo {size : Int} {hs : List Host} (s1 : 1 ≤ size) (hc : CrewOk size hs) (g : List Str → Int) : wsum (fun m => g (walkF size hs m)) (partF size (allM hs)) = sumTo (fun p => g (walkF size hs p)) size.toNat := by
  have hpw : (allM hs).Pairwise (· < ·) := ascF_pw
  have hin : ∀ k ∈ allM hs, 0 ≤ k ∧ k < size := fun k hk => allM_in hc hk
  have hne := allM_ne hc
  have key : ∀ ms : List Int, ms = allM hs → wsum (fun m => g (walkF size hs m)) (partF size ms) = sumTo (fun p => g (walkF size hs p)) size.toNat := by
    intro ms e
    cases ms with
    | nil => exact absurd e.symm hne
    | cons m r =>
      rw [← e] at hpw hin
      have hlm := last_mem (ms := m :: r) (by simp)
      have hmax := last_max hpw
      have hp2 := List.pairwise_cons.mp hpw
      have hm := hin m (by simp)
      have hl := hin _ hlm
      have hml := hmax m (by simp)
      have hmr : ∀ x ∈ r, x < size := fun x hx => (hin x (List.mem_cons_of_mem _ hx)).2
      have ps := part_sum (size := size) (f := fun p => g (walkF size hs p)) (c := fun m => g (walkF size hs m)) (ms := r) hm.1 hpw hmr fun p h1 h2 k hk h3 h4 => by
        have hk2 := hin k (List.mem_cons_of_mem _ hk)
        have := walk_same (p := p) (d := k - p) s1 hc (by omega) h2 (by omega) (by omega) fun j hj => by
          rw [← e] at hj
          rcases List.mem_cons.mp hj with rfl | hj
          · left; exact h1
          · rcases h4 j hj with z | z
            · left; exact z
            · right; omega
        show g (walkF size hs p) = g (walkF size hs k)
        rw [this, show p + (k - p) = k by omega]
      unfold partF
      generalize hL : (m :: r).getLastD 0 = L at *
      have e1 : wsum (fun m => g (walkF size hs m)) (partL size L (m :: r)) = ((m - L - 1) % size + 1) * g (walkF size hs m) + wsum (fun m => g (walkF size hs m)) (partL size m r) := by
        show (((((L + 1) % size, (m - L - 1) % size + 1, m) :: partL size m r).map _).sum) = _
        rw [List.map_cons, List.sum_cons]; rfl
      have w1 : ∀ p : Int, 0 ≤ p → p < m + 1 → g (walkF size hs p) = g (walkF size hs m) := fun p h1 h2 => by
        have := walk_same (p := p) (d := m - p) s1 hc h1 (by omega) (by omega) (by omega) fun k hk => by
          rw [← e] at hk
          rcases List.mem_cons.mp hk with rfl | hk
          · right; omega
          · right; have := hp2.1 k hk; omega
        rw [this, show p + (m - p) = m by omega]
      have w2 : ∀ p : Int, L + 1 ≤ p → p < size → g (walkF size hs p) = g (walkF size hs m) := fun p h1 h2 => by
        rw [walk_wrap s1 hc (by omega) (by omega) (l := m) (by rw [← e]; simp) fun k hk => ?_]
        rw [← e] at hk
        have h3 := hmax k hk
        refine ⟨?_, by omega⟩
        rcases List.mem_cons.mp hk with rfl | hk
        · exact Int.le_refl _
        · exact Int.le_of_lt (hp2.1 k hk)
      have s1' := sumTo_iv (f := fun p => g (walkF size hs p)) (c := g (walkF size hs m)) (a := 0) (b := m + 1) (by omega) (by omega) w1
      have s2' := sumTo_iv (f := fun p => g (walkF size hs p)) (c := g (walkF size hs m)) (a := L + 1) (b := size) (by omega) (by omega) w2
      rw [e1, ps, mod_up (x := m - L - 1) (by omega) (by omega), s2']
      have e5 : sumTo (fun p => g (walkF size hs p)) (0 : Int).toNat = 0 := rfl
      rw [e5] at s1'
      rw [s1', show m - L - 1 + size + 1 = (m + 1 - 0) + (size - (L + 1)) by omega, Int.add_mul]
      omega
  exact key _ rfl
theorem filter_wsum {p : Int → Bool} : ∀ l : List (Int × Int × Int), ((l.filter fun t => p t.2.2).map (·.2.1)).sum = wsum (fun m => if p m = true then 1 else 0) l
  | [] => rfl
  | t :: l => by
    have ih := filter_wsum (p := p) l
    unfold wsum at ih ⊢
    rw [List.filter_cons, List.map_cons, List.sum_cons, ← ih]
    by_cases h : p t.2.2 = true
    · rw [if_pos h, List.map_cons, List.sum_cons]
      dsimp only
      rw [if_pos h, Int.mul_one]
    · rw [if_neg h]
      dsimp only
      rw [if_neg h, Int.mul_zero, Int.zero_add]
end R
set_option maxRecDepth 100000
namespace R
open PySem PySem.Spec PyProof.Rows L2 DL
end R
set_option maxRecDepth 100000
set_option maxHeartbeats 1000000
namespace R
open PySem PySem.Spec PyProof.Rows L2 DL
local macro_rules | `(tactic| bv_omega) => `(tactic| first | assumption | exact mset_same)
local macro_rules | `(tactic| symm) => `(tactic| first
  | ((with_reducible show ∃ _, _ = _ ∧ _); refine ⟨_, rfl, ?_⟩)
  | ((with_reducible show _ = _ ∧ _); refine ⟨rfl, ?_⟩)
  | ((with_reducible show ∃ _ _, _ = _ ∧ _ = _ ∧ _); refine ⟨_, _, rfl, rfl, ?_⟩)
  | ((with_reducible show ∃ _ _, _ = _ ∧ _); refine ⟨_, _, rfl, ?_⟩)
  | ((with_reducible show ∃ _ _ _, _ = _ ∧ _); refine ⟨_, _, _, rfl, ?_⟩)
  | ((with_reducible show (_ ≤ _ ∧ _) ∧ _); refine ⟨by omega, ?_⟩)
  | with_reducible refine add_int ?_ | with_reducible refine sub_int ?_
  | with_reducible refine lt_int ?_ | with_reducible refine le_int ?_ | with_reducible refine gt_int ?_ | with_reducible refine ge_int ?_
  | with_reducible refine int_int ?_
  | with_reducible refine eq_int ?_ | with_reducible refine ne_int ?_
  | with_reducible refine len_tup ?_ | with_reducible refine len_lst ?_
  | ((with_reducible show rdIx (.cel _) (.int _) _ _); refine ix_cel (by bv_omega) (by rfl) ?_)
  | ((with_reducible show rdIx (.lst _) (.int _) _ _); refine ix_lst (by rfl) ?_)
  | ((with_reducible show rdIx (.tup _) (.int _) _ _); refine ix_tup (by rfl) ?_)
  | ((with_reducible show rdLen [.cel _] _ _); refine len_cel (by bv_omega) ?_)
  | ((with_reducible show rdMul (.int _) (.int _) _ _); first | refine mul_l (by decide) (by decide) ?_ | refine mul_r (by decide) (by decide) ?_ | refine mul_l (by omega) (by omega) ?_ | refine mul_r (by omega) (by omega) ?_)
  | ((with_reducible show rdDiv (.int _) (.int _) _ _); refine div_int (by first | decide | assumption | omega) (by first | decide | assumption | omega) ?_)
  | ((with_reducible show rdDivmod [.int _, .int _] _ _); refine dm_int (by first | decide | assumption | omega) (by first | decide | assumption | omega) ?_)
  | ((with_reducible show @ite _ (_ = true) _ _ _); first | refine ifYes (by first | with_reducible rfl | exact Bool.not_false | assumption) ?_ | refine ifNo (by first | with_reducible rfl | exact Bool.not_true | assumption) ?_)
  | ((with_reducible show ∃ _, _ ∧ _); refine ⟨_, celL_of (by bv_omega), ?_⟩)
  | ((with_reducible show ∃ _ _ _ _, _ ∧ _ ∧ _ ∧ _ ∧ _); refine ⟨_, _, _, _, rfl, rfl, by bv_omega, by rfl, ?_⟩)
  | ((with_reducible show (_ : Nat) ≤ sizeLine ∧ _); refine ⟨by rw [sizeLine_eq]; exact Nat.le_of_ble_eq_true rfl, ?_⟩))
local macro_rules | `(tactic| infer_instance) => `(tactic| ((repeat symm); try dsimp only))
local macro_rules | `(tactic| ac_rfl) => `(tactic| ((repeat (first | symm | ((with_reducible show rdMod (.int _) (.int _) _ _); refine mod_any (by first | decide | assumption | omega) ?_; intro _ _ _))); try dsimp only))
/-- small data that may be shown -/
structure Sh (n : Nat) (k : Nat) (p : PyData) : Prop where
  s : p.showable = true
  d : p.hasDict = false
  dp : p.depth ≤ k
  len : p.shown.length ≤ n
theorem Sh.ok {n k : Nat} {p : PyData} (h : Sh n k p) (hn : n ≤ 16777216) (hk : k ≤ 100) : showOk p := ⟨h.s, h.d, by have := h.dp; omega, by have := h.len; rw [sizeLine_eq]; omega⟩
theorem Sh.int {i : Int} (h0 : 0 ≤ i) (h1 : i < 10 ^ 19) : Sh 20 0 (.int i) := ⟨by simp [PyData.showable, log_ok h0 h1], by simp [PyData.hasDict], by simp [PyData.depth], by have := num_len h0 h1; rw [PyData.shown_int]; show (numS i).length ≤ 20; omega⟩
theorem Sh.str {x : Str} (h : nameB x = true) : Sh 82 0 (.str x) := ⟨by simp [PyData.showable], by simp [PyData.hasDict], by simp [PyData.depth], by rw [PyData.shown_str]; exact name_repr h⟩
theorem showAll {n k : Nat} : ∀ {l : List PyData}, (∀ p ∈ l, Sh n k p) → PyData.showableAll l = true ∧ PyData.hasDictAll l = false ∧ PyData.depthAll l ≤ k ∧ ∀ x ∈ PyData.shownAll l, x.length ≤ n
  | [], _ => ⟨by simp [PyData.showableAll], by simp [PyData.hasDictAll], by simp [PyData.depthAll], fun x hx => by simp [PyData.shownAll] at hx⟩
  | p :: l, h => by
    obtain ⟨h1, h2, h3, h4⟩ := showAll fun q hq => h q (List.mem_cons_of_mem _ hq)
    have hp := h p (by simp)
    refine ⟨by simp [PyData.showableAll, h1, hp.s], by simp [PyData.hasDictAll, h2, hp.d], ?_, fun x hx => ?_⟩
    · have := hp.dp
      simp only [PyData.depthAll]
      omega
    · rw [PyData.shownAll] at hx
      rcases List.mem_cons.mp hx with rfl | hx
      · exact hp.len
      · exact h4 x hx
theorem Sh.tuple {n k m : Nat} {l : List PyData} (h : ∀ p ∈ l, Sh n k p) (hm : l.length ≤ m) : Sh (3 + (n + 2) * m) (k + 1) (.tuple l) := by
  obtain ⟨h1, h2, h3, h4⟩ := showAll h
  refine ⟨by simp [PyData.showable, h1], by simp [PyData.hasDict, h2], by simp only [PyData.depth]; omega, ?_⟩
  have e : (PyData.tuple l).shown = tupleText (PyData.shownAll l) := by simp only [PyData.shown]
  rw [e]
  have a := tup_le (PyData.shownAll l)
  have b := piledN h4
  rw [shownAll_len] at b
  have c : (n + 2) * l.length ≤ (n + 2) * m := Nat.mul_le_mul_left _ hm
  omega
theorem Sh.list {n k m : Nat} {l : List PyData} (h : ∀ p ∈ l, Sh n k p) (hm : l.length ≤ m) : Sh (3 + (n + 2) * m) (k + 1) (.list l) := by
  obtain ⟨h1, h2, h3, h4⟩ := showAll h
  refine ⟨by simp [PyData.showable, h1], by simp [PyData.hasDict, h2], by simp only [PyData.depth]; omega, ?_⟩
  have e : (PyData.list l).shown = ("[" : Str) ++ Str.join ", " (PyData.shownAll l) ++ "]" := by
    simp only [PyData.shown]
    exact listText_eq_join _
  rw [e]
  have a := lst_le (PyData.shownAll l)
  have b := piledN h4
  rw [shownAll_len] at b
  have c : (n + 2) * l.length ≤ (n + 2) * m := Nat.mul_le_mul_left _ hm
  omega
theorem Sh.mono {n n' k k' : Nat} {p : PyData} (h : Sh n k p) (hn : n ≤ n') (hk : k ≤ k') : Sh n' k' p := ⟨h.s, h.d, by have := h.dp; omega, by have := h.len; omega⟩
/-- what is shown alike is alike -/
theorem ne_same {x : Str} {M : Mem} {q : QD} (w : q (.bl false) M) : rdNe (.str x) (.str x) M q := ne_strA (by rw [decide_eq_true rfl]; exact w)
end R
set_option maxRecDepth 100000
set_option maxHeartbeats 4000000
namespace ZL
open PySem PySem.Spec PyProof.Rows PySem.W L2
/-- where a zip of two lists stands that is drawn whole into a list -/
structure At (z TI TO i1 i2 l1 l2 : Addr) (xs ys : Array Value) (n0 : Nat) (i : Nat) (h : Heap) : Prop where
  ti : IsPair h TI (.ref i1) (.ref i2)
  a : h.IsListIter i1 l1 i
  b : h.IsListIter i2 l2 i
  l : h.IsList l1 xs
  r : h.IsList l2 ys
  zz : (IsZip h z TI TO .none ∧ ∃ p q, IsPair h TO p q) ∨ ∃ T f o, IsZipHeld h z TI TO T f ∧ h.get? T = some o ∧ n0 ≤ T
theorem ne_lo {a T n0 : Nat} (h : a < n0) (h' : n0 ≤ T) : T ≠ a := Nat.ne_of_gt (Nat.lt_of_lt_of_le h h')
section
variable {prog : Program} {w : World} {A : Around} {R : Result → Shared → Prop} {z TI TO i1 i2 l1 l2 S : Addr} {xs ys : Array Value} {n0 : Nat} {res : Value}
theorem At.keep {i : Nat} {h h' : Heap} (st : At z TI TO i1 i2 l1 l2 xs ys n0 i h) (k : ∀ c o, c ≠ S → h.get? c = some o → h'.get? c = some o) (hz : z ≠ S) (hTI : TI ≠ S) (hTO : TO ≠ S) (h1 : i1 ≠ S) (h2 : i2 ≠ S) (hl1 : l1 ≠ S) (hl2 : l2 ≠ S) (hS : S < n0) : At z TI TO i1 i2 l1 l2 xs ys n0 i h' where
  ti := k _ _ hTI st.ti
  a := st.a.at fun o e => k _ o h1 e
  b := st.b.at fun o e => k _ o h2 e
  l := st.l.at fun o e => k _ o hl1 e
  r := st.r.at fun o e => k _ o hl2 e
  zz := by
    rcases st.zz with ⟨e, p, q, e2⟩ | ⟨T, f, o, e, e2, hT⟩
    · exact .inl ⟨k _ _ hz e, p, q, k _ _ hTO e2⟩
    · exact .inr ⟨T, f, o, k _ _ hz e, k _ _ (ne_lo hS hT) e2, hT⟩
end
end ZL
set_option maxRecDepth 100000
set_option maxHeartbeats 4000000
namespace ZL
open PySem PySem.Spec PyProof.Rows L2
/-- pairs told of at their places -/
def putP : Hp → List Addr → List (V × V) → Hp
  | H, a :: as, p :: ps => putP (upd H a (.tup [p.1, p.2])) as ps
  | H, [], _ => H
  | H, _ :: _, [] => H
theorem putP_off {b : Addr} : ∀ (as : List Addr) (ps : List (V × V)) (H : Hp), b ∉ as → putP H as ps b = H b
  | [], _, _, _ => rfl
  | _ :: _, [], _, _ => rfl
  | a :: as, p :: ps, H, h => by
    rw [List.mem_cons, not_or] at h
    show putP (upd H a (.tup [p.1, p.2])) as ps b = H b
    rw [putP_off as ps _ h.2, upd_ne h.1]
theorem putP_at : ∀ (as : List Addr) (ps : List (V × V)) (H : Hp), as.Nodup → ∀ (j : Nat) (a : Addr) (p : V × V), as[j]? = some a → ps[j]? = some p → putP H as ps a = some (.tup [p.1, p.2])
  | [], _, _, _, j, a, p, h, _ => by simp at h
  | _ :: _, [], _, _, j, a, p, _, h => by simp at h
  | b :: as, q :: ps, H, hn, j, a, p, h1, h2 => by
    rw [List.nodup_cons] at hn
    show putP (upd H b (.tup [q.1, q.2])) as ps a = _
    cases j with
    | zero =>
      simp at h1 h2
      subst h1 h2
      rw [putP_off as ps _ hn.1, upd_same]
    | succ j => exact putP_at as ps _ hn.2 j a p (by simpa using h1) (by simpa using h2)
theorem refs_vals : ∀ as : List Addr, Vals (as.map V.ref) (as.map Value.ref)
  | [] => .nil
  | _ :: as => .cons rfl (refs_vals as)
/-- what stands there then, over the abstract heap -/
structure Pairs (H H' : Hp) (S : Addr) (as : List Addr) (ps : List (V × V)) : Prop where
  old : ∀ b o, H b = some o → H' b = some o
  eq : H' = putP (upd H S (.lst (as.map V.ref))) as ps
  len : as.length = ps.length
  nd : as.Nodup
  newS : H S = none
  new : ∀ a ∈ as, H a = none
  off : S ∉ as
section
variable {X : Cx} {pins : List (Addr × Obj)} {σ : L2.St} {H : Hp} {s : Shared}
theorem laid {h' : Heap} {tk : Nat} {as : List Addr} {ps : List (V × V)} {c : Nat} {S : Addr} (I : Inv X pins σ H s) (hz : ps.length ≤ sizeLine) (hS0 : s.heap.objs.size ≤ S) (ha : ∀ a ∈ as, s.heap.objs.size ≤ a) (hn : as.Nodup) (hSn : S ∉ as) (hl : as.length = ps.length) (hk : ∀ b o, s.heap.get? b = some o → h'.get? b = some o)
    (hS : h'.get? S = some { cls := .type "list", dict := none, data := .seq (as.map Value.ref).toArray c, slots := #[] }) (hp : ∀ (j : Nat) (a : Addr) (p : V × V), as[j]? = some a → ps[j]? = some p → ∃ x y, RelV p.1 x ∧ RelV p.2 y ∧ h'.get? a = some { cls := .type "tuple", data := .seq #[x, y] }) :
    ∃ H', Pairs H H' S as ps ∧ Inv X pins σ H' { s with heap := h', toks := tk } := by
  have newS : H S = none := I.hok.fresh hS0
  have new : ∀ a ∈ as, H a = none := fun a hm => I.hok.fresh (ha a hm)
  have off : ∀ b, b ∉ as → b ≠ S → putP (upd H S (.lst (as.map V.ref))) as ps b = H b := fun b h1 h2 => by rw [putP_off as ps _ h1, upd_ne h2]
  have eS : putP (upd H S (.lst (as.map V.ref))) as ps S = some (.lst (as.map V.ref)) := by rw [putP_off as ps _ hSn, upd_same]
  have kp : ∀ b u, H b = some u → putP (upd H S (.lst (as.map V.ref))) as ps b = some u := fun b u e => by
    rw [off b (fun z => by rw [new b z] at e; cases e) (fun z => by rw [z, newS] at e; cases e)]; exact e
  refine ⟨_, ⟨kp, rfl, hl, hn, newS, new, hSn⟩, ?_⟩
  refine I.call' (ch := []) rfl ⟨fun b o q _ _ _ => hk b o q, fun b o q _ _ _ => ⟨o.slots, hk b o q⟩, fun b o q n _ => ?_, fun b o q _ => ⟨o, hk b o q⟩, fun b xs q => kp b _ q, fun b o u q => kp b _ q, fun b ps q => ⟨#[], by rw [kp b _ q]; simp⟩⟩ (fun b u q => ?_) I.bare fun b z => by simp at z
  · have hlt := Heap.lt_size q
    rw [off b (fun z => absurd hlt (Nat.not_lt.mpr (ha b z))) (fun z => by subst z; exact absurd hlt (Nat.not_lt.mpr hS0))]
    exact n
  · by_cases hb : b ∈ as
    · obtain ⟨j, hj⟩ := List.getElem?_of_mem hb
      have hj2 := (List.getElem?_eq_some_iff.mp hj).1
      have hpj := List.getElem?_eq_getElem (l := ps) (i := j) (by omega)
      have e := putP_at as ps (upd H S (.lst (as.map V.ref))) hn j b _ hj hpj
      have e2 : some u = some (.tup [(ps[j]'(by omega)).1, (ps[j]'(by omega)).2]) := by rw [← q]; exact e
      cases e2
      obtain ⟨x, y, rx, ry, f⟩ := hp j b _ hj hpj
      exact ⟨by show 2 ≤ sizeLine; decide, [x, y], .cons rx (.cons ry .nil), ⟨_, f, rfl, _, rfl⟩⟩
    · by_cases hb2 : b = S
      · rw [hb2] at q ⊢
        have e2 : some u = some (.lst (as.map V.ref)) := by rw [← q]; exact eS
        cases e2
        exact ⟨by rw [List.length_map]; omega, as.map Value.ref, c, refs_vals as, hS⟩
      · have e2 : H b = some u := by rw [← off b hb hb2]; exact q
        exact (I.hok b u e2).stay (fun d v _ y => hk d v y) (fun d y => kp d _ y) fun d xs y => kp d _ y
end
end ZL
namespace DL
open PySem PySem.Spec PyProof.Rows L2 ZL
end DL
set_option maxRecDepth 100000
set_option maxHeartbeats 4000000
namespace DL
open PySem PySem.Spec PyProof.Rows L2
def kD : Key → D
  | .inl i => .int i
  | .inr x => .str x
theorem kD_dn {K : PySem.W.Frag} {H : Hp} (k : Key) : Dn K H (kV k) (kD k) := by
  cases k with
  | inl i => exact .int i
  | inr x => exact .str x
theorem SD.lock {K : PySem.W.Frag} {H0 H : Hp} {M : Mem} (S : SD K H0 H M) {c : Addr} {ds : List (Key × D)} (h : M c = some (.dc ds)) : ∃ rs, H c = some (.dK rs) ∧ ∀ o, SD K H0 (upd H c (.frz o (.dK rs))) (mset M c (.fd o rs ds)) := by
  obtain ⟨n0, rs, hr, kv⟩ := S.dict h
  exact ⟨rs, hr, fun o => S.put n0 fun _ e => ⟨e, kv⟩⟩
theorem SD.unlock {K : PySem.W.Frag} {H0 H : Hp} {M : Mem} (S : SD K H0 H M) {c : Addr} {o : Obj} {rs : List (Key × V)} {ds : List (Key × D)} (h : M c = some (.fd o rs ds)) : H c = some (.frz o (.dK rs)) ∧ SD K H0 (upd H c (.dK rs)) (mset M c (.dc ds)) := by
  obtain ⟨n0, a, b⟩ := S.any c _ h
  exact ⟨a, S.put n0 fun _ e => ⟨rs, e, b⟩⟩
/-- the statement runs while the dict in slot i is locked -/
@[reducible] def dLockS (i : Nat) (b : DS) : DS := fun d env M => ∃ c ds, env[i]? = some (some (.cel c)) ∧ M c = some (.dc ds) ∧ ∀ o rs, b
  { nx := fun env' M' => M' c = some (.fd o rs ds) ∧ d.nx env' (mset M' c (.dc ds)), rt := fun v M' => M' c = some (.fd o rs ds) ∧ d.rt v (mset M' c (.dc ds)),
    bk := fun env' M' => M' c = some (.fd o rs ds) ∧ d.bk env' (mset M' c (.dc ds)), ct := fun env' M' => M' c = some (.fd o rs ds) ∧ d.ct env' (mset M' c (.dc ds)), ex := fun _ => noX } env (mset M c (.fd o rs ds))
@[reducible] def dLockE (i : Nat) (de : DE) : DE := fun env M q E => ∃ c ds, env[i]? = some (some (.cel c)) ∧ M c = some (.dc ds) ∧ ∀ o rs, de env (mset M c (.fd o rs ds)) (fun v M' => M' c = some (.fd o rs ds) ∧ q v (mset M' c (.dc ds))) noX
section
variable {X : Cx} {W : WX} {tg : Expr}
theorem sd_lock {st : Stmt} {b : DS} (i : Nat) (h : SDt X W st b) : SDt X W st (dLockS i b) :=
  psImp (ps_lock h) fun D σ H ⟨env, M, d, H0, so, S, ⟨c, ds, hi, hc, w⟩, k⟩ => by
    obtain ⟨rs, hr, hl⟩ := S.lock hc
    refine ⟨c, _, hr, trivial, fun o => ⟨env, _, _, H0, so, hl o, w o rs, ?_⟩⟩
    have nx : ∀ {q : EnvD → Mem → Prop} {Q : L2.St → Hp → Prop}, KN X.K H0 q Q → KN X.K H0 (fun env' M' => M' c = some (.fd o rs ds) ∧ q env' (mset M' c (.dc ds))) (fun σ' H' => H' c = some (.frz o (.dK rs)) ∧ Q σ' (upd H' c (.dK rs))) := fun kq σ' env' H1 H' M' e so' S' ⟨hm, w⟩ => by
      obtain ⟨h1, h2⟩ := S'.unlock hm
      exact ⟨h1, kq σ' env' H1 _ _ e so' h2 w⟩
    exact ⟨nx k.nx, fun v dv H1 H' M' e S' r ⟨hm, w⟩ => by
      obtain ⟨h1, h2⟩ := S'.unlock hm
      exact ⟨h1, k.rt v dv H1 _ _ e h2 r w⟩, nx k.bk, nx k.ct, fun H1 σ' env' e so' => fun cls dd ns ds' H1' H' M' e' S' xx w => w.elim⟩
theorem pd_lock {e : Expr} {de : DE} (i : Nat) (h : PD X W e de) : PD X W e (dLockE i de) :=
  peImp (pe_lock h) fun σ H Q ⟨env, M, q, E, H0, so, S, ⟨c, ds, hi, hc, w⟩, k, kx⟩ => by
    obtain ⟨rs, hr, hl⟩ := S.lock hc
    refine ⟨c, _, hr, trivial, fun o => ⟨env, _, _, noX, H0, so, hl o, w o rs, fun v dv H1 H' M' e S' r ⟨hm, w⟩ => ?_, fun cls dd ns ds' H1' H' M' e' S' xx w => w.elim⟩⟩
    obtain ⟨h1, h2⟩ := S'.unlock hm
    exact ⟨h1, k v dv H1 _ _ e h2 r w⟩
end
end DL
set_option maxRecDepth 100000
set_option maxHeartbeats 4000000
namespace DL
open PySem PySem.Spec PyProof.Rows L2
end DL
set_option maxRecDepth 100000
set_option maxHeartbeats 4000000
namespace DL
open PySem PySem.Spec PyProof.Rows L2
end DL
set_option maxRecDepth 100000
set_option maxHeartbeats 4000000
namespace SK
open PySem PySem.Spec PyProof.Rows L2
section
variable {P : Program} {w : World} {K : Type} [DecidableEq K] (knd : KeyKind P w K) (key : Value → K)
/-- what tells the key of a value -/
abbrev KeyFn : Prop := ∀ k v, knd.is k v = true → key v = k
abbrev keysOf (l : List (Int × Value)) : List K := l.map fun e => key e.2
structure Body (h : Heap) (a : Addr) (o : Obj) (es : Array (Int × Value)) (ep : Nat) (t : SetTable) : Prop where
  at_ : h.get? a = some o
  exact_ : o.ExactSet
  data : o.data = .set es ep t
  el : ElemsOf knd es.toList
  nd : (keysOf key es.toList).Nodup
  few : es.size < scanBound
  fits : t.fits es.size = true
  ris : Ris t.place.toList
  led : w.params.followText "set-order" = true ∨ t.led = true
/-- the set at a: its members ks, each once -/
def SetK (h : Heap) (a : Addr) (ks : List K) : Prop := ∃ o es ep t, Body knd key h a o es ep t ∧ (keysOf key es.toList).Perm ks
end
section
variable {P : Program} {w : World} {K : Type} [DecidableEq K] {knd : KeyKind P w K} {key : Value → K} {h h' : Heap} {a : Addr} {ks : List K}
theorem SetK.keep (R : SetK knd key h a ks) (k : ∀ o, h.get? a = some o → h'.get? a = some o) : SetK knd key h' a ks := by
  obtain ⟨o, es, ep, t, B, p⟩ := R
  exact ⟨o, es, ep, t, { B with at_ := k o B.at_ }, p⟩
theorem SetK.len (R : SetK knd key h a ks) : ks.length < scanBound := by
  obtain ⟨o, es, ep, t, B, p⟩ := R
  rw [← p.length_eq, List.length_map, Array.length_toList]
  exact B.few
theorem key_iff (hk : KeyFn knd key) {l : List (Int × Value)} (hl : ElemsOf knd l) (k : K) : k ∈ keysOf key l ↔ ∃ e ∈ l, knd.is k e.2 = true := by
  rw [List.mem_map]
  constructor
  · rintro ⟨e, he, rfl⟩
    obtain ⟨⟨k0, h1, _⟩, _⟩ := hl e he
    exact ⟨e, he, by rw [hk _ _ h1]; exact h1⟩
  · rintro ⟨e, he, q⟩
    exact ⟨e, he, hk _ _ q⟩
end
section
variable {P : Program} {w : World} {A : Around} {E : Value → Shared → Prop} {s : Shared} {K : Type} [DecidableEq K] {knd : KeyKind P w K} {key : Value → K} {a : Addr} {ks : List K}
theorem add_one (hk : KeyFn knd key) {k : K} {x : Value} (hx : knd.is k x = true) (hsc : x.scannable = true) {Q : Bool → Shared → Prop} (R : SetK knd key s.heap a ks) (room : ks.length + 1 < scanBound)
    (hQ : ∀ h' b, Heap.SameBut a s.heap h' → SetK knd key h' a (if k ∈ ks then ks else k :: ks) → Q b { s with heap := h' }) : wpAny (model P w) A (setAddHashed a x (knd.hash k)) Q E s := by
  obtain ⟨o, es, ep, t, ⟨ho, hex, hd, hel, nd, hb, hf, hr, hl⟩, hp⟩ := R
  have hmem : k ∈ ks ↔ ∃ e ∈ es.toList, knd.is k e.2 = true := by rw [← hp.mem_iff]; exact key_iff hk hel k
  unfold setAddHashed setAddHashedIn
  refine wpAny_holding (wpAny_bind (wpAny_setState_of ho hd hf ?_))
  dsimp only
  rw [byScan_of hsc hb hel]
  simp only [↓reduceIte]
  unfold setAddByScan
  refine wpAny_bind ?_
  refine wpAny_bind (wpAny_rule ?_)
  refine wpAny_bind (wpAny_setScan_of hx ho hd hf hel ?_)
  cases hfi : List.findIdx? (fun e => knd.is k e.2) es.toList with
  | some j =>
    dsimp only
    obtain ⟨hj, pj, _⟩ := List.findIdx?_eq_some_iff_getElem.mp hfi
    have hin : k ∈ ks := hmem.mpr ⟨es.toList[j], List.getElem_mem hj, pj⟩
    refine wpAny_pure (wpAny_pure ?_)
    exact hQ s.heap _ (Heap.SameBut.refl a s.heap) (by rw [if_pos hin]; exact ⟨o, es, ep, t, ⟨ho, hex, hd, hel, nd, hb, hf, hr, hl⟩, hp⟩)
  | none =>
    dsimp only
    have hnk : k ∉ ks := fun z => by
      obtain ⟨e, he, q⟩ := hmem.mp z
      have c := List.findIdx?_eq_none_iff.mp hfi e he
      rw [q] at c
      cases c
    have q1 := layNew_perm t es (knd.hash k) x
    have q2 := layNew_fits t es (knd.hash k) x
    have q3 := layNew_ris t es (knd.hash k) x hr
    have q4 := layNew_led t es (knd.hash k) x
    generalize layNew t es (knd.hash k) x = Z at q1 q2 q3 q4 ⊢
    obtain ⟨es1, t1, wd, gave⟩ := Z
    dsimp only at q1 q2 q3 q4 ⊢
    rw [Array.toList_push] at q1
    have pc : es1.toList.Perm ((knd.hash k, x) :: es.toList) := q1.trans (List.perm_append_singleton _ _)
    have hkx : key x = k := hk _ _ hx
    have pk : (keysOf key es1.toList).Perm (k :: keysOf key es.toList) := by
      have := pc.map fun e => key e.2
      rw [List.map_cons] at this
      dsimp only at this
      rw [hkx] at this
      exact this
    have el1 : ElemsOf knd es1.toList := fun e he => by
      rcases List.mem_cons.mp (pc.mem_iff.mp he) with z | z
      · rw [z]; exact ⟨⟨k, hx, rfl⟩, hsc⟩
      · exact hel e z
    have nk : k ∉ keysOf key es.toList := fun z => hnk (hp.mem_iff.mp z)
    have nd1 : (keysOf key es1.toList).Nodup := pk.nodup_iff.mpr (List.nodup_cons.mpr ⟨nk, nd⟩)
    have pks : (keysOf key es1.toList).Perm (if k ∈ ks then ks else k :: ks) := by rw [if_neg hnk]; exact pk.trans (hp.cons k)
    have hsz : es1.size = es.size + 1 := by rw [← Array.length_toList, pc.length_eq, List.length_cons, Array.length_toList]
    have hes : es.size = ks.length := by rw [← hp.length_eq, List.length_map, Array.length_toList]
    have b1 : es1.size < scanBound := by omega
    have l1 : w.params.followText "set-order" = true ∨ t1.led = true := hl.imp id fun z => by rw [q4]; exact z
    have give : ∀ (b : Bool) {s₁ : Shared} {Q' : Unit → Shared → Prop}, Q' () s₁ → wpAny (model P w) A (match b with | true => rule "set.scan.the-table-gave-way" | false => pure ()) Q' E s₁ :=
      fun b s₁ Q' q => by cases b <;> first | exact wpAny_pure q | exact wpAny_rule q
    refine wpAny_bind (give _ ?_)
    have tail : ∀ (t2 : SetTable) (g : Bool → Sem Unit) {R : Option Bool → Shared → Prop}, (∀ (b : Bool) (s₁ : Shared) (Q' : Unit → Shared → Prop), Q' () s₁ → wpAny (model P w) A (g b) Q' E s₁) → t2.fits es1.size = true → Ris t2.place.toList → (w.params.followText "set-order" = true ∨ t2.led = true) →
        (∀ h', Heap.SameBut a s.heap h' → SetK knd key h' a (if k ∈ ks then ks else k :: ks) → R (some true) { s with heap := h' }) →
        wpAny (model P w) A (do
          storeSet a es1 t2
          if (!wd && t2.tooFull) = true then do
              g (relayAll t2 es1 (SetTable.grown es1.size)).2.2
              storeSet a (relayAll t2 es1 (SetTable.grown es1.size)).1 (relayAll t2 es1 (SetTable.grown es1.size)).2.1
              pure (some true)
            else pure (some true)) R E s := fun t2 g R hg f2 r2 l2 hR => by
      refine wpAny_bind (wpAny_storeSet_of ho hd ?_ (fits_of_scanBound b1))
      have o1 := store_at (es' := es1) (t' := t2) ho hd
      have sb1 := Heap.SameBut.update s.heap a (Obj.putSet es1 t2)
      split
      · have z1 := relayAll_perm t2 es1 (SetTable.grown es1.size)
        have z2 := relayAll_fits t2 es1 (SetTable.grown es1.size)
        have z3 := relayAll_ris t2 es1 (SetTable.grown es1.size)
        have z4 := relayAll_led t2 es1 (SetTable.grown es1.size)
        generalize relayAll t2 es1 (SetTable.grown es1.size) = Y at z1 z2 z3 z4 ⊢
        obtain ⟨es2, t3, gv⟩ := Y
        dsimp only at z1 z2 z3 z4 ⊢
        have sz2 : es2.size = es1.size := by rw [← Array.length_toList, z1.length_eq, Array.length_toList]
        refine wpAny_bind (hg _ _ _ ?_)
        refine wpAny_bind (wpAny_storeSet_of o1 rfl ?_ (fits_of_scanBound (by omega)))
        have o2 := store_at (es' := es2) (t' := t3) o1 rfl
        have pz : (keysOf key es2.toList).Perm (keysOf key es1.toList) := z1.map _
        refine wpAny_pure (hR _ (sb1.trans (Heap.SameBut.update _ a _)) ⟨_, es2, _, t3, ⟨o2, hex, rfl, fun e he => el1 e (z1.mem_iff.mp he), pz.nodup_iff.mpr nd1, by omega, z2, z3, l2.imp id fun z => by rw [z4]; exact z⟩, pz.trans pks⟩)
      · exact wpAny_pure (hR _ sb1 ⟨_, es1, _, t2, ⟨o1, hex, rfl, el1, nd1, b1, f2, r2, l2⟩, pks⟩)
    split
    · refine wpAny_bind ?_
      rw [hashByValue_scannable 8 hsc]
      refine wpAny_pure ?_
      refine tail _ _ ?_ ?_ ?_ ?_ ?_
      · intro b s₁ Q' q; cases b <;> first | exact wpAny_pure q | exact wpAny_rule q
      · first | (split <;> first | exact q2 | exact SetTable.fits_plain_off q2) | exact q2
      · first | (split <;> exact q3) | exact q3
      · first | (split <;> exact l1) | exact l1
      · intro h' sb r; dsimp only; exact wpAny_pure (hQ h' _ sb r)
    · refine wpAny_bind (wpAny_pure ?_)
      simp only [↓reduceIte]
      refine tail _ _ ?_ q2 q3 l1 ?_
      · intro b s₁ Q' q; cases b <;> first | exact wpAny_pure q | exact wpAny_rule q
      · intro h' sb r; dsimp only; exact wpAny_pure (hQ h' _ sb r)
end
def put1 {K : Type} [DecidableEq K] (ks : List K) (k : K) : List K := if k ∈ ks then ks else k :: ks
def dedup {K : Type} [DecidableEq K] (l : List K) : List K := l.foldl put1 []
theorem dedup_snoc {K : Type} [DecidableEq K] (l : List K) (k : K) : dedup (l ++ [k]) = put1 (dedup l) k := by unfold dedup; rw [List.foldl_append]; rfl
theorem fold_mem {K : Type} [DecidableEq K] {k : K} : ∀ (l acc : List K), k ∈ l.foldl put1 acc ↔ k ∈ acc ∨ k ∈ l
  | [], acc => by simp
  | x :: l, acc => by
    rw [List.foldl_cons, fold_mem l, List.mem_cons]
    unfold put1
    by_cases h : x ∈ acc
    · rw [if_pos h]
      constructor
      · rintro (z | z)
        · exact .inl z
        · exact .inr (.inr z)
      · rintro (z | rfl | z)
        · exact .inl z
        · exact .inl h
        · exact .inr z
    · rw [if_neg h, List.mem_cons]
      constructor
      · rintro ((z | z) | z)
        · exact .inr (.inl z)
        · exact .inl z
        · exact .inr (.inr z)
      · rintro (z | z | z)
        · exact .inl (.inr z)
        · exact .inl (.inl z)
        · exact .inr z
theorem dedup_mem {K : Type} [DecidableEq K] {k : K} (l : List K) : k ∈ dedup l ↔ k ∈ l := by unfold dedup; rw [fold_mem]; simp
theorem fold_nd {K : Type} [DecidableEq K] : ∀ (l acc : List K), acc.Nodup → (l.foldl put1 acc).Nodup
  | [], acc, h => h
  | x :: l, acc, h => by
    rw [List.foldl_cons]
    refine fold_nd l _ ?_
    unfold put1
    split
    · exact h
    · rename_i z; exact List.nodup_cons.mpr ⟨z, h⟩
theorem dedup_nd {K : Type} [DecidableEq K] (l : List K) : (dedup l).Nodup := fold_nd l [] .nil
theorem fold_len {K : Type} [DecidableEq K] : ∀ (l acc : List K), (l.foldl put1 acc).length ≤ acc.length + l.length
  | [], acc => Nat.le_refl _
  | x :: l, acc => by
    rw [List.foldl_cons]
    have h1 := fold_len l (put1 acc x)
    have h2 : (put1 acc x).length ≤ acc.length + 1 := by unfold put1; split <;> simp
    rw [List.length_cons]; omega
theorem dedup_len {K : Type} [DecidableEq K] (l : List K) : (dedup l).length ≤ l.length := by have := fold_len l []; unfold dedup; simpa using this
section
variable {P : Program} {w : World} {A : Around} {E : Value → Shared → Prop} {s : Shared} {K : Type} [DecidableEq K] {knd : KeyKind P w K} {key : Value → K}
/-- the loop of set.update -/
theorem fill (hk : KeyFn knd key) {I : Addr} {fp wr : List Addr} {G : Array GenState → Array GenState → Prop} {n : Nat} {Pv : Nat → Value → Prop} {St : Nat → Shared → Prop} {R : Result → Shared → Prop}
    (W : WalksS P w A.in1 I fp wr G n Pv St) (T : Addr) (hT : T ∉ fp) (l : List K) (hn : n = l.length) (hb : l.length + 1 < scanBound) (hval : ∀ i v, Pv i v → ∃ k, l[i]? = some k ∧ knd.is k v = true ∧ v.scannable = true) :
    ∀ (m i : Nat) (s : Shared), n - i = m → i ≤ n → St i s → SetK knd key s.heap T (dedup (l.take i)) →
      (∀ s', Moved (T :: wr) G s s' → SetK knd key s'.heap T (dedup l) → R (.ok (.ret .none)) s') →
      codeAny (model P w) A (.builtin "set.update.loop" ⟨[.ref T, .ref I], []⟩) R s := by
  have far : T ∉ wr := fun h => hT (W.sub _ h)
  have wide : ∀ b ∈ wr, b ∈ T :: wr := fun b hb => List.mem_cons_of_mem _ hb
  intro m
  induction m with
  | zero =>
    intro i s hm hi st held hR
    obtain rfl : i = n := by omega
    refine codeAny_builtin F.entry_set_update_loop ?_
    rw [Around.under_plainId F.plain_set_update_loop _]
    refine wpAny_bind (m := pyNext (.ref I)) (W.done s _ _ st fun s' mv => ?_)
    rw [List.take_of_length_le (by omega)] at held
    exact wpAny_pure (hR s' (mv.mono wide) (held.keep fun o e => mv.heap T o far e))
  | succ m ih =>
    intro i s hm hi st held hR
    have lt : i < n := by omega
    refine codeAny_builtin F.entry_set_update_loop ?_
    rw [Around.under_plainId F.plain_set_update_loop _]
    refine wpAny_bind (m := pyNext (.ref I)) (W.item i s _ _ lt st fun v s' pv st' mv => ?_)
    obtain ⟨k, h1, h2, h3⟩ := hval i v pv
    have held' : SetK knd key s'.heap T (dedup (l.take i)) := held.keep fun o e => mv.heap T o far e
    have room : (dedup (l.take i)).length + 1 < scanBound := by
      have := dedup_len (l.take i)
      rw [List.length_take] at this
      omega
    refine wpAny_bind (m := holding [v] (setAdd T v)) (wpAny_holding ?_)
    unfold setAdd
    refine wpAny_holding ?_
    refine wpAny_bind (knd.pyHash h2 ?_)
    refine add_one (s := { s' with toks := s'.toks + 1 }) hk h2 h3 held' room fun h' b sb got => ?_
    have got2 : SetK knd key h' T (dedup (l.take (i + 1))) := by
      have e : l.take (i + 1) = l.take i ++ [k] := by rw [List.take_add_one, h1]; rfl
      rw [e, dedup_snoc]; exact got
    refine wpAny_pure ⟨plainId_quiet F.plain_set_update_loop _, ih (i + 1) _ (by omega) lt (W.frame _ s' _ _ st' (Nat.le_succ _) fun b hb o e => ?_) got2 fun s'' mv2 end_ => ?_⟩
    · rw [sb.2 b (fun z : b = T => hT (by rw [← z]; exact hb))]; exact e
    · refine hR s'' (Moved.trans W.gtrans ((mv.mono wide).then_heap (Nat.le_succ _) fun b o hb e => ?_) mv2) end_
      rw [sb.2 b (fun z : b = T => hb (by rw [z]; exact List.mem_cons_self))]; exact e
theorem setK_new {h : Heap} {a : Addr} (ho : h.get? a = some (SL.newSetO w)) : SetK knd key h a [] :=
  ⟨_, #[], 0, _, ⟨ho, ⟨rfl, rfl, rfl⟩, rfl, (fun e he => by simp at he), by simp, by decide, by rfl, List.Pairwise.nil, by
    show _ ∨ (!w.params.followText "set-order") = true
    cases w.params.followText "set-order"
    · exact .inr rfl
    · exact .inl rfl⟩, by simp⟩
structure Made (knd : KeyKind P w K) (key : Value → K) (s : Shared) (l : List K) (h' : Heap) : Prop where
  at_ : SetK knd key h' s.heap.objs.size (dedup l)
  old : ∀ b o, s.heap.get? b = some o → h'.get? b = some o
theorem init_of (hk : KeyFn knd key) {l : Addr} {items : Array Value} {ks : List K} (hh : A.handled = none) (hl : s.heap.IsList l items) (hn : items.size = ks.length) (hi : ∀ (i : Nat) v, items[i]? = some v → ∃ k, ks[i]? = some k ∧ knd.is k v = true ∧ v.scannable = true) (hb : ks.length + 1 < scanBound) {Q : PySem.Fin → Shared → Prop}
    (h : ∀ h' tk, Made knd key s ks h' → Q (.done (.ret Value.none)) { s with heap := h', toks := tk }) :
    wpAny (model P w) A (Builtin.«set.__init__» ⟨[.ref s.heap.objs.size, .ref l], []⟩) Q E (SL.behindSet w s) := by
  have at0 : (SL.behindSet w s).heap.get? s.heap.objs.size = some (SL.newSetO w) := Heap.get?_push_size _ rfl
  have hT : (SL.behindSet w s).TypeIs (.ref s.heap.objs.size) "set" := ⟨_, at0, rfl⟩
  obtain ⟨⟨cl, dd, dt, sl⟩, ho, hc, n, hd⟩ := id hl
  simp only at hc hd
  subst hc hd
  have ho' : (SL.behindSet w s).heap.get? l = some { cls := .type "list", dict := dd, data := .seq items n, slots := sl } := Heap.get?_push_of_some _ ho
  have k1 := F.sub_list_set
  have k2 := F.sub_list_frozenset
  have k3 : (Value.type "list" == Value.type "dict") = false := by decide
  have hl1 : (SL.behindSet w s).heap.IsList l items := hl.push _
  unfold Builtin.«set.__init__» noKeywords Builtin.Frozenset.updateFrom
  generalize gPI : pyIter = PI
  wp_walk
  subst gPI
  refine wpAny_pyIter_list hl1 ?_
  refine wpAny_bind (wpAny_runValue ?_)
  have lt0 : l < s.heap.objs.size := Heap.lt_size ho
  have sz1 : (SL.behindSet w s).heap.objs.size = s.heap.objs.size + 1 := Heap.size_push ..
  have n1 : l ≠ (SL.behindSet w s).heap.objs.size := fun z => absurd (z.trans sz1) (Nat.ne_of_lt (Nat.lt_succ_of_lt lt0))
  have n2 : s.heap.objs.size ∉ [(SL.behindSet w s).heap.objs.size, l] := by
    intro z
    have z := List.mem_cons.mp z
    rcases z with z | z
    · exact absurd (z.trans sz1) (Nat.ne_of_lt (Nat.lt_succ_self _))
    · exact absurd (List.mem_singleton.mp z) (Nat.ne_of_gt lt0)
  refine fill hk ((Walks.list (show A.in1.handled = none by simp [hh]) _ l n1 items).toS) s.heap.objs.size n2 ks hn hb (fun i v hv => hi i v hv) (items.size - 0) 0 _ (by omega) (Nat.zero_le _)
    ?_ (by exact setK_new (w := w) (Heap.get?_push_of_some _ at0)) fun s' hm hS => ?_
  · exact ⟨⟨_, Heap.get?_push_size _ rfl, rfl, rfl⟩, hl1.push _⟩
  · obtain ⟨h', g2, d', tk, os'⟩ := s'
    have eg : g2 = s.gens := hm.gens
    have ed : d' = s.drawn := hm.drawn
    have eo : os' = s.os := hm.os
    subst eg ed eo
    show wpAny _ _ _ _ _ _
    refine wpAny_pure ?_
    show wpAny _ _ (ret Value.none) _ _ _
    refine wpAny_pure (h h' tk ⟨hS, fun b o e => ?_⟩)
    have lt2 : b < s.heap.objs.size := Heap.lt_size e
    refine hm.heap b o (fun z => ?_) (Heap.get?_push_of_some _ (Heap.get?_push_of_some _ e))
    have z := List.mem_cons.mp z
    rcases z with z | z
    · exact absurd z (Nat.ne_of_lt lt2)
    · exact absurd ((List.mem_singleton.mp z).trans sz1) (Nat.ne_of_lt (Nat.lt_succ_of_lt lt2))
theorem init_ofT (hk : KeyFn knd key) {l : Addr} {items : Array Value} {ks : List K} (hh : A.handled = none) (hl : s.heap.IsTuple l items) (hn : items.size = ks.length) (hi : ∀ (i : Nat) v, items[i]? = some v → ∃ k, ks[i]? = some k ∧ knd.is k v = true ∧ v.scannable = true) (hb : ks.length + 1 < scanBound) {Q : PySem.Fin → Shared → Prop}
    (h : ∀ h' tk, Made knd key s ks h' → Q (.done (.ret Value.none)) { s with heap := h', toks := tk }) :
    wpAny (model P w) A (Builtin.«set.__init__» ⟨[.ref s.heap.objs.size, .ref l], []⟩) Q E (SL.behindSet w s) := by
  have at0 : (SL.behindSet w s).heap.get? s.heap.objs.size = some (SL.newSetO w) := Heap.get?_push_size _ rfl
  have hT : (SL.behindSet w s).TypeIs (.ref s.heap.objs.size) "set" := ⟨_, at0, rfl⟩
  obtain ⟨⟨cl, dd, dt, sl⟩, ho, hc, n, hd⟩ := id hl
  simp only at hc hd
  subst hc hd
  have ho' : (SL.behindSet w s).heap.get? l = some { cls := .type "tuple", dict := dd, data := .seq items n, slots := sl } := Heap.get?_push_of_some _ ho
  have k1 := F.sub_tuple_set
  have k2 := F.sub_tuple_frozenset
  have k3 : (Value.type "tuple" == Value.type "dict") = false := by decide
  have hl1 : (SL.behindSet w s).heap.IsTuple l items := ⟨_, ho', rfl, n, rfl⟩
  unfold Builtin.«set.__init__» noKeywords Builtin.Frozenset.updateFrom
  generalize gPI : pyIter = PI
  wp_walk
  subst gPI
  refine wpAny_pyIter_tuple hl1 ?_
  refine wpAny_bind (wpAny_runValue ?_)
  have lt0 : l < s.heap.objs.size := Heap.lt_size ho
  have sz1 : (SL.behindSet w s).heap.objs.size = s.heap.objs.size + 1 := Heap.size_push ..
  have n1 : l ≠ (SL.behindSet w s).heap.objs.size := fun z => absurd (z.trans sz1) (Nat.ne_of_lt (Nat.lt_succ_of_lt lt0))
  have n2 : s.heap.objs.size ∉ [(SL.behindSet w s).heap.objs.size, l] := by
    intro z
    have z := List.mem_cons.mp z
    rcases z with z | z
    · exact absurd (z.trans sz1) (Nat.ne_of_lt (Nat.lt_succ_self _))
    · exact absurd (List.mem_singleton.mp z) (Nat.ne_of_gt lt0)
  refine fill hk ((Walks.tuple (show A.in1.handled = none by simp [hh]) _ l n1 items).toS) s.heap.objs.size n2 ks hn hb (fun i v hv => hi i v hv) (items.size - 0) 0 _ (by omega) (Nat.zero_le _)
    ?_ ?_ fun s' hm hS => ?_
  · exact ⟨⟨_, Heap.get?_push_size _ rfl, rfl, rfl⟩, hl1.push _⟩
  · exact setK_new (w := w) (Heap.get?_push_of_some _ at0)
  · obtain ⟨h', g2, d', tk, os'⟩ := s'
    have eg : g2 = s.gens := hm.gens
    have ed : d' = s.drawn := hm.drawn
    have eo : os' = s.os := hm.os
    subst eg ed eo
    show wpAny _ _ _ _ _ _
    refine wpAny_pure ?_
    show wpAny _ _ (ret Value.none) _ _ _
    refine wpAny_pure (h h' tk ⟨hS, fun b o e => ?_⟩)
    have lt2 : b < s.heap.objs.size := Heap.lt_size e
    refine hm.heap b o (fun z => ?_) (Heap.get?_push_of_some _ (Heap.get?_push_of_some _ e))
    have z := List.mem_cons.mp z
    rcases z with z | z
    · exact absurd z (Nat.ne_of_lt lt2)
    · exact absurd ((List.mem_singleton.mp z).trans sz1) (Nat.ne_of_lt (Nat.lt_succ_of_lt lt2))
/-- set(l) -/
theorem set_by {l : Addr} {ks : List K}
    (ini : ∀ {A' : Around} {Q : PySem.Fin → Shared → Prop}, A'.handled = A.handled → (∀ h' tk, Made knd key s ks h' → Q (.done (.ret Value.none)) { s with heap := h', toks := tk }) → wpAny (model P w) A' (Builtin.«set.__init__» ⟨[.ref s.heap.objs.size, .ref l], []⟩) Q E (SL.behindSet w s)) {Q : Value → Shared → Prop}
    (h : ∀ h' tk, Made knd key s ks h' → Q (.ref s.heap.objs.size) { s with heap := h', toks := tk }) : wpAny (model P w) A (call (.type "set") [.ref l]) Q E s := by
  obtain ⟨c0, tl, g0⟩ := F.called_set.mro
  have g1 := F.called_set.made
  have g2 := F.called_set.sub
  have g3 := F.called_set.notType
  have g4 := F.called_set.canCreate
  have g5 := F.typeCall_set_1 (.ref l)
  refine wpAny_call (codeAny_of_tree ?_)
  show wpAny _ _ (callAny (.type "set") _) _ _ _
  refine wpAny_pure ⟨Code.quiet_builtin _ (by decide +kernel), codeAny_builtin F.entry_type_call ?_⟩
  rw [Around.under_plain (weight_type_call_type "set" [.ref l] []) rfl]
  repeat (any_goals (first | assumption | wp_step))
  refine codeAny_mono (code_set_led1 (.ref l) (E := E) (Q₁ := fun o s1 => o = .ref s.heap.objs.size ∧ s1 = SL.behindSet w s) ⟨rfl, rfl⟩) fun r s1 hr => ?_
  match r, hr with
  | .error e, hr => exact hr
  | .ok (.ret o), hr =>
    obtain ⟨rfl, rfl⟩ := hr
    have at0 : (SL.behindSet w s).heap.get? s.heap.objs.size = some (SL.newSetO w) := Heap.get?_push_size _ rfl
    have hT : (SL.behindSet w s).TypeIs (.ref s.heap.objs.size) "set" := ⟨_, at0, rfl⟩
    have g6 := F.called_set.init.lookup
    have g7 := F.called_set.init.bind (.ref s.heap.objs.size)
    repeat (any_goals (first | assumption | wp_step))
    refine codeAny_mono (codeAny_call_builtin (R := wants (fun r s2 => r = .none ∧ ∃ h' tk, s2 = { s with heap := h', toks := tk } ∧ Made knd key s ks h') E) F.called_set.init.plain F.entry_set_init (check_set_init_1 hT (ini (by simp) ?_))) fun r2 s2 hr2 => ?_
    · exact fun h' tk f => ⟨rfl, h', tk, rfl, f⟩
    match r2, hr2 with
    | .error e, hr2 => exact hr2
    | .ok (.ret r), hr2 =>
      obtain ⟨rfl, h', tk, rfl, f⟩ := hr2
      repeat (any_goals (first | assumption | wp_step))
      exact h _ _ f
theorem set_of (hk : KeyFn knd key) {l : Addr} {items : Array Value} {ks : List K} (hh : A.handled = none) (hl : s.heap.IsList l items ∨ s.heap.IsTuple l items) (hn : items.size = ks.length) (hi : ∀ (i : Nat) v, items[i]? = some v → ∃ k, ks[i]? = some k ∧ knd.is k v = true ∧ v.scannable = true) (hb : ks.length + 1 < scanBound) {Q : Value → Shared → Prop}
    (h : ∀ h' tk, Made knd key s ks h' → Q (.ref s.heap.objs.size) { s with heap := h', toks := tk }) : wpAny (model P w) A (call (.type "set") [.ref l]) Q E s := by
  rcases hl with hl | hl
  · exact set_by (fun e q => init_of hk (e.trans hh) hl hn hi hb q) h
  · exact set_by (fun e q => init_ofT hk (e.trans hh) hl hn hi hb q) h
end
def keyT : Value → Str
  | .str x _ => x
  | _ => Str.empty
theorem keyT_ok (P : Program) (w : World) : KeyFn (PySem.strKind P w) keyT := fun k v h => by
  cases v <;> simp [PySem.strKind, Value.isStrOf] at h
  exact h
end SK
namespace DL
open PySem PySem.Spec PyProof.Rows L2
/-- the set of texts at a -/
def SetTO (P : Program) (w : World) (a : Addr) (ks : List Str) : HO := .ext fun h => SK.SetK (PySem.strKind P w) SK.keyT h a ks
section
variable {X : Cx} {W : WX}
theorem setTO_ok {P : Program} {w : World} {H : Hp} {h : Heap} {a : Addr} {ks : List Str} (R : SK.SetK (PySem.strKind P w) SK.keyT h a ks) : ObjOk P w H h a (SetTO P w a ks) := by
  have ⟨o, _, _, _, B, _⟩ := R
  exact ⟨R, ⟨o, B.at_⟩, fun h1 h2 p k => SK.SetK.keep p k⟩
def rSetT (X : Cx) : List V → Hp → VK → Prop := fun vs H Q => ∃ (a : Addr) (xs : List Str), vs = [V.ref a] ∧ (SqL X.K H a (xs.map V.str) ∨ SqT X.K H a (xs.map V.str)) ∧ xs.length < 4000 ∧ ∀ p, H p = none → Q (.ref p) (upd H p (SetTO X.prog X.w p (SK.dedup xs)))
theorem strs_item : ∀ {us : List Value} {xs : List Str}, StrsAre us xs → ∀ (i : Nat) (v : Value), us[i]? = some v → ∃ x t, xs[i]? = some x ∧ v = .str x t
  | _, _, .nil, i, v, h => by simp at h
  | _, _, .cons x t r, 0, v, h => ⟨x, t, rfl, by simpa using h.symm⟩
  | _, _, .cons x t r, i + 1, v, h => by
    obtain ⟨y, u, h1, h2⟩ := strs_item r i v (by simpa using h)
    exact ⟨y, u, by simpa using h1, h2⟩
theorem cr_setT (hc : X.calm = true) : CallR X (.type "set") (rSetT X) := by
  intro pins s σ H vs us Q I r h
  obtain ⟨a, xs, rfl, hs, hl, q⟩ := h
  obtain rfl := Vals.ref1 r
  have fin : ∀ its : List Value, Vals (xs.map V.str) its → s.heap.IsList a its.toArray ∨ s.heap.IsTuple a its.toArray → wpAny (model X.prog X.w) X.A (call (.type "set") [.ref a]) (EP X pins σ Q) X.xe s := fun its rv hp => by
    have hlen := rv.length
    rw [List.length_map] at hlen
    refine SK.set_of (SK.keyT_ok X.prog X.w) (ks := xs) (I.ok.hd hc) hp (by simp [hlen]) (fun i v hv => ?_) (by unfold scanBound; omega) fun h' tk f => ?_
    · obtain ⟨x, t, h1, rfl⟩ := strs_item rv.strs i v (by simpa using hv)
      exact ⟨x, h1, strKind_is _ _ _ _, rfl⟩
    · exact ⟨.ref _, upd H s.heap.objs.size (SetTO X.prog X.w s.heap.objs.size (SK.dedup xs)), I.laid f.old (Nat.le_refl _) (setTO_ok f.at_), rfl, q _ (I.hok.fresh (Nat.le_refl _))⟩
  rcases hs with hs | hs
  · obtain ⟨its, rv, hp, hz⟩ := I.list hs
    exact fin its rv (.inl hp.isList)
  · obtain ⟨its, rv, hp, hz⟩ := I.tuple hs
    exact fin its rv (.inr hp)
end
end DL
set_option maxRecDepth 100000
set_option maxHeartbeats 4000000
namespace DL
open PySem PySem.Spec PyProof.Rows L2
end DL
set_option maxRecDepth 100000
set_option maxHeartbeats 4000000
namespace DL
open PySem PySem.Spec PyProof.Rows L2
section
variable {X : Cx} {W : WX}
theorem DnL.split {K : PySem.W.Frag} {H : Hp} : ∀ {ds : List D} {d : D} {vs : List V}, DnL K H vs (ds ++ [d]) → ∃ us u, vs = us ++ [u] ∧ DnL K H us ds ∧ Dn K H u d
  | [], d, _, .cons h .nil => ⟨[], _, rfl, .nil, h⟩
  | x :: ds, d, _, .cons h r => by
    obtain ⟨us, u, rfl, a, b⟩ := DnL.split r
    exact ⟨_ :: us, u, rfl, .cons h a, b⟩
end
end DL
set_option maxRecDepth 100000
set_option maxHeartbeats 1000000
namespace R
open PySem PySem.Spec PyProof.Rows L2 DL
local macro_rules | `(tactic| bv_omega) => `(tactic| first | assumption | exact mset_same)
local macro_rules | `(tactic| symm) => `(tactic| first
  | ((with_reducible show ∃ _, _ = _ ∧ _); refine ⟨_, rfl, ?_⟩)
  | ((with_reducible show _ = _ ∧ _); refine ⟨rfl, ?_⟩)
  | ((with_reducible show ∃ _ _, _ = _ ∧ _ = _ ∧ _); refine ⟨_, _, rfl, rfl, ?_⟩)
  | ((with_reducible show ∃ _ _, _ = _ ∧ _); refine ⟨_, _, rfl, ?_⟩)
  | ((with_reducible show ∃ _ _ _, _ = _ ∧ _); refine ⟨_, _, _, rfl, ?_⟩)
  | ((with_reducible show (_ ≤ _ ∧ _) ∧ _); refine ⟨by omega, ?_⟩)
  | with_reducible refine add_int ?_ | with_reducible refine sub_int ?_
  | with_reducible refine lt_int ?_ | with_reducible refine le_int ?_ | with_reducible refine gt_int ?_ | with_reducible refine ge_int ?_
  | with_reducible refine int_int ?_
  | with_reducible refine eq_int ?_ | with_reducible refine ne_int ?_
  | with_reducible refine len_tup ?_ | with_reducible refine len_lst ?_
  | ((with_reducible show rdIx (.cel _) (.int _) _ _); refine ix_cel (by bv_omega) (by rfl) ?_)
  | ((with_reducible show rdIx (.lst _) (.int _) _ _); refine ix_lst (by rfl) ?_)
  | ((with_reducible show rdIx (.tup _) (.int _) _ _); refine ix_tup (by rfl) ?_)
  | ((with_reducible show rdLen [.cel _] _ _); refine len_cel (by bv_omega) ?_)
  | ((with_reducible show rdMul (.int _) (.int _) _ _); first | refine mul_l (by decide) (by decide) ?_ | refine mul_r (by decide) (by decide) ?_ | refine mul_l (by omega) (by omega) ?_ | refine mul_r (by omega) (by omega) ?_)
  | ((with_reducible show rdDiv (.int _) (.int _) _ _); refine div_int (by first | decide | assumption | omega) (by first | decide | assumption | omega) ?_)
  | ((with_reducible show rdDivmod [.int _, .int _] _ _); refine dm_int (by first | decide | assumption | omega) (by first | decide | assumption | omega) ?_)
  | ((with_reducible show @ite _ (_ = true) _ _ _); first | refine ifYes (by first | with_reducible rfl | exact Bool.not_false | assumption) ?_ | refine ifNo (by first | with_reducible rfl | exact Bool.not_true | assumption) ?_)
  | ((with_reducible show ∃ _, _ ∧ _); refine ⟨_, celL_of (by bv_omega), ?_⟩)
  | ((with_reducible show ∃ _ _ _ _, _ ∧ _ ∧ _ ∧ _ ∧ _); refine ⟨_, _, _, _, rfl, rfl, by bv_omega, by rfl, ?_⟩)
  | ((with_reducible show (_ : Nat) ≤ sizeLine ∧ _); refine ⟨by rw [sizeLine_eq]; exact Nat.le_of_ble_eq_true rfl, ?_⟩))
local macro_rules | `(tactic| infer_instance) => `(tactic| ((repeat symm); try dsimp only))
local macro_rules | `(tactic| ac_rfl) => `(tactic| ((repeat (first | symm | ((with_reducible show rdMod (.int _) (.int _) _ _); refine mod_any (by first | decide | assumption | omega) ?_; intro _ _ _))); try dsimp only))
end R
set_option maxRecDepth 100000
namespace R
open PySem PySem.Spec PyProof.Rows L2 DL
end R
set_option maxRecDepth 100000
set_option maxHeartbeats 1000000
namespace R
open PySem PySem.Spec PyProof.Rows L2 DL
local macro_rules | `(tactic| bv_omega) => `(tactic| first | assumption | exact mset_same)
local macro_rules | `(tactic| symm) => `(tactic| first
  | ((with_reducible show ∃ _, _ = _ ∧ _); refine ⟨_, rfl, ?_⟩)
  | ((with_reducible show _ = _ ∧ _); refine ⟨rfl, ?_⟩)
  | ((with_reducible show ∃ _ _, _ = _ ∧ _ = _ ∧ _); refine ⟨_, _, rfl, rfl, ?_⟩)
  | ((with_reducible show ∃ _ _, _ = _ ∧ _); refine ⟨_, _, rfl, ?_⟩)
  | ((with_reducible show ∃ _ _ _, _ = _ ∧ _); refine ⟨_, _, _, rfl, ?_⟩)
  | ((with_reducible show (_ ≤ _ ∧ _) ∧ _); refine ⟨by omega, ?_⟩)
  | with_reducible refine add_int ?_ | with_reducible refine sub_int ?_
  | with_reducible refine lt_int ?_ | with_reducible refine le_int ?_ | with_reducible refine gt_int ?_ | with_reducible refine ge_int ?_
  | with_reducible refine int_int ?_
  | with_reducible refine eq_int ?_ | with_reducible refine ne_int ?_
  | with_reducible refine len_tup ?_ | with_reducible refine len_lst ?_
  | ((with_reducible show rdIx (.cel _) (.int _) _ _); refine ix_cel (by bv_omega) (by rfl) ?_)
  | ((with_reducible show rdIx (.lst _) (.int _) _ _); refine ix_lst (by rfl) ?_)
  | ((with_reducible show rdIx (.tup _) (.int _) _ _); refine ix_tup (by rfl) ?_)
  | ((with_reducible show rdLen [.cel _] _ _); refine len_cel (by bv_omega) ?_)
  | ((with_reducible show rdMul (.int _) (.int _) _ _); first | refine mul_l (by decide) (by decide) ?_ | refine mul_r (by decide) (by decide) ?_ | refine mul_l (by omega) (by omega) ?_ | refine mul_r (by omega) (by omega) ?_)
  | ((with_reducible show rdDiv (.int _) (.int _) _ _); refine div_int (by first | decide | assumption | omega) (by first | decide | assumption | omega) ?_)
  | ((with_reducible show rdDivmod [.int _, .int _] _ _); refine dm_int (by first | decide | assumption | omega) (by first | decide | assumption | omega) ?_)
  | ((with_reducible show @ite _ (_ = true) _ _ _); first | refine ifYes (by first | with_reducible rfl | exact Bool.not_false | assumption) ?_ | refine ifNo (by first | with_reducible rfl | exact Bool.not_true | assumption) ?_)
  | ((with_reducible show ∃ _, _ ∧ _); refine ⟨_, celL_of (by bv_omega), ?_⟩)
  | ((with_reducible show ∃ _ _ _ _, _ ∧ _ ∧ _ ∧ _ ∧ _); refine ⟨_, _, _, _, rfl, rfl, by bv_omega, by rfl, ?_⟩)
  | ((with_reducible show (_ : Nat) ≤ sizeLine ∧ _); refine ⟨by rw [sizeLine_eq]; exact Nat.le_of_ble_eq_true rfl, ?_⟩))
local macro_rules | `(tactic| infer_instance) => `(tactic| ((repeat symm); try dsimp only))
local macro_rules | `(tactic| ac_rfl) => `(tactic| ((repeat (first | symm | ((with_reducible show rdMod (.int _) (.int _) _ _); refine mod_any (by first | decide | assumption | omega) ?_; intro _ _ _))); try dsimp only))
end R
set_option maxRecDepth 100000
set_option maxHeartbeats 1000000
namespace R
open PySem PySem.Spec PyProof.Rows L2 DL
local macro_rules | `(tactic| bv_omega) => `(tactic| first | assumption | exact mset_same)
local macro_rules | `(tactic| symm) => `(tactic| first
  | ((with_reducible show ∃ _, _ = _ ∧ _); refine ⟨_, rfl, ?_⟩)
  | ((with_reducible show _ = _ ∧ _); refine ⟨rfl, ?_⟩)
  | ((with_reducible show ∃ _ _, _ = _ ∧ _ = _ ∧ _); refine ⟨_, _, rfl, rfl, ?_⟩)
  | ((with_reducible show ∃ _ _, _ = _ ∧ _); refine ⟨_, _, rfl, ?_⟩)
  | ((with_reducible show ∃ _ _ _, _ = _ ∧ _); refine ⟨_, _, _, rfl, ?_⟩)
  | ((with_reducible show (_ ≤ _ ∧ _) ∧ _); refine ⟨by omega, ?_⟩)
  | with_reducible refine add_int ?_ | with_reducible refine sub_int ?_
  | with_reducible refine lt_int ?_ | with_reducible refine le_int ?_ | with_reducible refine gt_int ?_ | with_reducible refine ge_int ?_
  | with_reducible refine int_int ?_
  | with_reducible refine eq_int ?_ | with_reducible refine ne_int ?_
  | with_reducible refine len_tup ?_ | with_reducible refine len_lst ?_
  | ((with_reducible show rdIx (.cel _) (.int _) _ _); refine ix_cel (by bv_omega) (by rfl) ?_)
  | ((with_reducible show rdIx (.lst _) (.int _) _ _); refine ix_lst (by rfl) ?_)
  | ((with_reducible show rdIx (.tup _) (.int _) _ _); refine ix_tup (by rfl) ?_)
  | ((with_reducible show rdLen [.cel _] _ _); refine len_cel (by bv_omega) ?_)
  | ((with_reducible show rdMul (.int _) (.int _) _ _); first | refine mul_l (by decide) (by decide) ?_ | refine mul_r (by decide) (by decide) ?_ | refine mul_l (by omega) (by omega) ?_ | refine mul_r (by omega) (by omega) ?_)
  | ((with_reducible show rdDiv (.int _) (.int _) _ _); refine div_int (by first | decide | assumption | omega) (by first | decide | assumption | omega) ?_)
  | ((with_reducible show rdDivmod [.int _, .int _] _ _); refine dm_int (by first | decide | assumption | omega) (by first | decide | assumption | omega) ?_)
  | ((with_reducible show @ite _ (_ = true) _ _ _); first | refine ifYes (by first | with_reducible rfl | exact Bool.not_false | assumption) ?_ | refine ifNo (by first | with_reducible rfl | exact Bool.not_true | assumption) ?_)
  | ((with_reducible show ∃ _, _ ∧ _); refine ⟨_, celL_of (by bv_omega), ?_⟩)
  | ((with_reducible show ∃ _ _ _ _, _ ∧ _ ∧ _ ∧ _ ∧ _); refine ⟨_, _, _, _, rfl, rfl, by bv_omega, by rfl, ?_⟩)
  | ((with_reducible show (_ : Nat) ≤ sizeLine ∧ _); refine ⟨by rw [sizeLine_eq]; exact Nat.le_of_ble_eq_true rfl, ?_⟩))
local macro_rules | `(tactic| infer_instance) => `(tactic| ((repeat symm); try dsimp only))
local macro_rules | `(tactic| ac_rfl) => `(tactic| ((repeat (first | symm | ((with_reducible show rdMod (.int _) (.int _) _ _); refine mod_any (by first | decide | assumption | omega) ?_; intro _ _ _))); try dsimp only))
def Lt (x : Str) : Prop := ∀ c ∈ x.cps.toList, c < 1114112
theorem Lt.ok {x : Str} (h : Lt x) : PyData.strOk x = true := strOk_nat (List.all_eq_true.mpr fun c hc => decide_eq_true (h c hc))
theorem Lt.app {a b : Str} (h : Lt a) (h' : Lt b) : Lt (a ++ b) := fun c hc => by
  rcases mem_cps_append.mp hc with hc | hc
  · exact h c hc
  · exact h' c hc
end R
set_option maxRecDepth 100000
set_option maxHeartbeats 1000000
namespace R
open PySem PySem.Spec PyProof.Rows L2 DL
local macro_rules | `(tactic| bv_omega) => `(tactic| first | assumption | exact mset_same)
local macro_rules | `(tactic| symm) => `(tactic| first
  | ((with_reducible show ∃ _, _ = _ ∧ _); refine ⟨_, rfl, ?_⟩)
  | ((with_reducible show _ = _ ∧ _); refine ⟨rfl, ?_⟩)
  | ((with_reducible show ∃ _ _, _ = _ ∧ _ = _ ∧ _); refine ⟨_, _, rfl, rfl, ?_⟩)
  | ((with_reducible show ∃ _ _, _ = _ ∧ _); refine ⟨_, _, rfl, ?_⟩)
  | ((with_reducible show ∃ _ _ _, _ = _ ∧ _); refine ⟨_, _, _, rfl, ?_⟩)
  | ((with_reducible show (_ ≤ _ ∧ _) ∧ _); refine ⟨by omega, ?_⟩)
  | with_reducible refine add_int ?_ | with_reducible refine sub_int ?_
  | with_reducible refine lt_int ?_ | with_reducible refine le_int ?_ | with_reducible refine gt_int ?_ | with_reducible refine ge_int ?_
  | with_reducible refine int_int ?_
  | with_reducible refine eq_int ?_ | with_reducible refine ne_int ?_
  | with_reducible refine len_tup ?_ | with_reducible refine len_lst ?_
  | ((with_reducible show rdIx (.cel _) (.int _) _ _); refine ix_cel (by bv_omega) (by rfl) ?_)
  | ((with_reducible show rdIx (.lst _) (.int _) _ _); refine ix_lst (by rfl) ?_)
  | ((with_reducible show rdIx (.tup _) (.int _) _ _); refine ix_tup (by rfl) ?_)
  | ((with_reducible show rdLen [.cel _] _ _); refine len_cel (by bv_omega) ?_)
  | ((with_reducible show rdMul (.int _) (.int _) _ _); first | refine mul_l (by decide) (by decide) ?_ | refine mul_r (by decide) (by decide) ?_ | refine mul_l (by omega) (by omega) ?_ | refine mul_r (by omega) (by omega) ?_)
  | ((with_reducible show rdDiv (.int _) (.int _) _ _); refine div_int (by first | decide | assumption | omega) (by first | decide | assumption | omega) ?_)
  | ((with_reducible show rdDivmod [.int _, .int _] _ _); refine dm_int (by first | decide | assumption | omega) (by first | decide | assumption | omega) ?_)
  | ((with_reducible show @ite _ (_ = true) _ _ _); first | refine ifYes (by first | with_reducible rfl | exact Bool.not_false | assumption) ?_ | refine ifNo (by first | with_reducible rfl | exact Bool.not_true | assumption) ?_)
  | ((with_reducible show ∃ _, _ ∧ _); refine ⟨_, celL_of (by bv_omega), ?_⟩)
  | ((with_reducible show ∃ _ _ _ _, _ ∧ _ ∧ _ ∧ _ ∧ _); refine ⟨_, _, _, _, rfl, rfl, by bv_omega, by rfl, ?_⟩)
  | ((with_reducible show (_ : Nat) ≤ sizeLine ∧ _); refine ⟨by rw [sizeLine_eq]; exact Nat.le_of_ble_eq_true rfl, ?_⟩))
local macro_rules | `(tactic| infer_instance) => `(tactic| ((repeat symm); try dsimp only))
local macro_rules | `(tactic| ac_rfl) => `(tactic| ((repeat (first | symm | ((with_reducible show rdMod (.int _) (.int _) _ _); refine mod_any (by first | decide | assumption | omega) ?_; intro _ _ _))); try dsimp only))
def abc : List Str := ["a", "b", "c", "d", "e"]
end R
set_option maxRecDepth 100000
namespace R
open PySem PySem.Spec PyProof.Rows L2 DL
end R
set_option maxRecDepth 100000
set_option maxHeartbeats 1000000
namespace R
open PySem PySem.Spec PyProof.Rows L2 DL
local macro_rules | `(tactic| bv_omega) => `(tactic| first | assumption | exact mset_same)
local macro_rules | `(tactic| symm) => `(tactic| first
  | ((with_reducible show ∃ _, _ = _ ∧ _); refine ⟨_, rfl, ?_⟩)
  | ((with_reducible show _ = _ ∧ _); refine ⟨rfl, ?_⟩)
  | ((with_reducible show ∃ _ _, _ = _ ∧ _ = _ ∧ _); refine ⟨_, _, rfl, rfl, ?_⟩)
  | ((with_reducible show ∃ _ _, _ = _ ∧ _); refine ⟨_, _, rfl, ?_⟩)
  | ((with_reducible show ∃ _ _ _, _ = _ ∧ _); refine ⟨_, _, _, rfl, ?_⟩)
  | ((with_reducible show (_ ≤ _ ∧ _) ∧ _); refine ⟨by omega, ?_⟩)
  | with_reducible refine add_int ?_ | with_reducible refine sub_int ?_
  | with_reducible refine lt_int ?_ | with_reducible refine le_int ?_ | with_reducible refine gt_int ?_ | with_reducible refine ge_int ?_
  | with_reducible refine int_int ?_
  | with_reducible refine eq_int ?_ | with_reducible refine ne_int ?_
  | with_reducible refine len_tup ?_ | with_reducible refine len_lst ?_
  | ((with_reducible show rdIx (.cel _) (.int _) _ _); refine ix_cel (by bv_omega) (by rfl) ?_)
  | ((with_reducible show rdIx (.lst _) (.int _) _ _); refine ix_lst (by rfl) ?_)
  | ((with_reducible show rdIx (.tup _) (.int _) _ _); refine ix_tup (by rfl) ?_)
  | ((with_reducible show rdLen [.cel _] _ _); refine len_cel (by bv_omega) ?_)
  | ((with_reducible show rdMul (.int _) (.int _) _ _); first | refine mul_l (by decide) (by decide) ?_ | refine mul_r (by decide) (by decide) ?_ | refine mul_l (by omega) (by omega) ?_ | refine mul_r (by omega) (by omega) ?_)
  | ((with_reducible show rdDiv (.int _) (.int _) _ _); refine div_int (by first | decide | assumption | omega) (by first | decide | assumption | omega) ?_)
  | ((with_reducible show rdDivmod [.int _, .int _] _ _); refine dm_int (by first | decide | assumption | omega) (by first | decide | assumption | omega) ?_)
  | ((with_reducible show @ite _ (_ = true) _ _ _); first | refine ifYes (by first | with_reducible rfl | exact Bool.not_false | assumption) ?_ | refine ifNo (by first | with_reducible rfl | exact Bool.not_true | assumption) ?_)
  | ((with_reducible show ∃ _, _ ∧ _); refine ⟨_, celL_of (by bv_omega), ?_⟩)
  | ((with_reducible show ∃ _ _ _ _, _ ∧ _ ∧ _ ∧ _ ∧ _); refine ⟨_, _, _, _, rfl, rfl, by bv_omega, by rfl, ?_⟩)
  | ((with_reducible show (_ : Nat) ≤ sizeLine ∧ _); refine ⟨by rw [sizeLine_eq]; exact Nat.le_of_ble_eq_true rfl, ?_⟩))
local macro_rules | `(tactic| infer_instance) => `(tactic| ((repeat symm); try dsimp only))
local macro_rules | `(tactic| ac_rfl) => `(tactic| ((repeat (first | symm | ((with_reducible show rdMod (.int _) (.int _) _ _); refine mod_any (by first | decide | assumption | omega) ?_; intro _ _ _))); try dsimp only))
theorem abs_int {i : Int} {M : Mem} {q : QD} (w : q (.int (if i < 0 then -i else i)) M) : rdAbs [.int i] M q := w
theorem keep_law {r : Rule} {hs : List Host} {ns : List Str} (hr : RuleOk r) (hnd : ns.Nodup) (hne : r.spread ≠ "hosts") : (firstsN hs ns ns.length).take r.wide.toNat ++ (ns.filter fun x => !decide (x ∈ (firstsN hs ns ns.length).take r.wide.toNat)).take (r.wide.toNat - ((firstsN hs ns ns.length).take r.wide.toNat).length) = keepersOf r hs ns := by
  have e := keep_same (hs := hs) hr hnd
  unfold keepL at e
  rw [if_neg hne] at e
  rw [← e, List.take_append, List.take_of_length_le (l := (firstsN hs ns ns.length).take r.wide.toNat) (by rw [List.length_take]; omega)]
theorem bays_kv : ∀ l : List Host, kvsD (l.map fun o => D.tup [.str o.name, .str o.rack]) = some (bayL l)
  | [] => rfl
  | o :: l => by
    show (match keyD (.str o.name), kvsD (l.map fun o => D.tup [.str o.name, .str o.rack]) with | some k, some r => some ((k, D.str o.rack) :: r) | _, _ => none) = _
    rw [bays_kv l]; rfl
end R
set_option maxRecDepth 100000
set_option maxHeartbeats 1000000
namespace R
open PySem PySem.Spec PyProof.Rows L2 DL
local macro_rules | `(tactic| bv_omega) => `(tactic| first | assumption | exact mset_same)
local macro_rules | `(tactic| symm) => `(tactic| first
  | ((with_reducible show ∃ _, _ = _ ∧ _); refine ⟨_, rfl, ?_⟩)
  | ((with_reducible show _ = _ ∧ _); refine ⟨rfl, ?_⟩)
  | ((with_reducible show ∃ _ _, _ = _ ∧ _ = _ ∧ _); refine ⟨_, _, rfl, rfl, ?_⟩)
  | ((with_reducible show ∃ _ _, _ = _ ∧ _); refine ⟨_, _, rfl, ?_⟩)
  | ((with_reducible show ∃ _ _ _, _ = _ ∧ _); refine ⟨_, _, _, rfl, ?_⟩)
  | ((with_reducible show (_ ≤ _ ∧ _) ∧ _); refine ⟨by omega, ?_⟩)
  | with_reducible refine add_int ?_ | with_reducible refine sub_int ?_
  | with_reducible refine lt_int ?_ | with_reducible refine le_int ?_ | with_reducible refine gt_int ?_ | with_reducible refine ge_int ?_
  | with_reducible refine int_int ?_
  | with_reducible refine eq_int ?_ | with_reducible refine ne_int ?_
  | with_reducible refine len_tup ?_ | with_reducible refine len_lst ?_
  | ((with_reducible show rdIx (.cel _) (.int _) _ _); refine ix_cel (by bv_omega) (by rfl) ?_)
  | ((with_reducible show rdIx (.lst _) (.int _) _ _); refine ix_lst (by rfl) ?_)
  | ((with_reducible show rdIx (.tup _) (.int _) _ _); refine ix_tup (by rfl) ?_)
  | ((with_reducible show rdLen [.cel _] _ _); refine len_cel (by bv_omega) ?_)
  | ((with_reducible show rdMul (.int _) (.int _) _ _); first | refine mul_l (by decide) (by decide) ?_ | refine mul_r (by decide) (by decide) ?_ | refine mul_l (by omega) (by omega) ?_ | refine mul_r (by omega) (by omega) ?_)
  | ((with_reducible show rdDiv (.int _) (.int _) _ _); refine div_int (by first | decide | assumption | omega) (by first | decide | assumption | omega) ?_)
  | ((with_reducible show rdDivmod [.int _, .int _] _ _); refine dm_int (by first | decide | assumption | omega) (by first | decide | assumption | omega) ?_)
  | ((with_reducible show @ite _ (_ = true) _ _ _); first | refine ifYes (by first | with_reducible rfl | exact Bool.not_false | assumption) ?_ | refine ifNo (by first | with_reducible rfl | exact Bool.not_true | assumption) ?_)
  | ((with_reducible show ∃ _, _ ∧ _); refine ⟨_, celL_of (by bv_omega), ?_⟩)
  | ((with_reducible show ∃ _ _ _ _, _ ∧ _ ∧ _ ∧ _ ∧ _); refine ⟨_, _, _, _, rfl, rfl, by bv_omega, by rfl, ?_⟩)
  | ((with_reducible show (_ : Nat) ≤ sizeLine ∧ _); refine ⟨by rw [sizeLine_eq]; exact Nat.le_of_ble_eq_true rfl, ?_⟩))
local macro_rules | `(tactic| infer_instance) => `(tactic| ((repeat symm); try dsimp only))
local macro_rules | `(tactic| ac_rfl) => `(tactic| ((repeat (first | symm | ((with_reducible show rdMod (.int _) (.int _) _ _); refine mod_any (by first | decide | assumption | omega) ?_; intro _ _ _))); try dsimp only))
structure Grown (size : Int) (most : Nat) (hs : List Host) : Prop where
  few : hs.length ≤ 5
  names : hs.map (·.name) = abc.take hs.length
  each : ∀ h ∈ hs, HostT size h
  apart : hs.Pairwise Apart
  marks : ∀ h ∈ hs, h.marks.length ≤ most ∧ h.rack ∈ (["r1", "r2", "r3"] : List Str)
theorem grown_len {size : Int} {most : Nat} {hs : List Host} (G : Grown size most hs) (h16 : most ≤ 16) : (hs.flatMap (·.marks)).length ≤ 16 * hs.length := by
  have h3 := sum_le (l := hs) (f := fun o : Host => o.marks.length) (b := 16) fun o ho => by have := (G.marks o ho).1; omega
  rw [List.length_flatMap]
  omega
end R
set_option maxRecDepth 100000
set_option maxHeartbeats 1000000
namespace R
open PySem PySem.Spec PyProof.Rows L2 DL
local macro_rules | `(tactic| bv_omega) => `(tactic| first | assumption | exact mset_same)
local macro_rules | `(tactic| symm) => `(tactic| first
  | ((with_reducible show ∃ _, _ = _ ∧ _); refine ⟨_, rfl, ?_⟩)
  | ((with_reducible show _ = _ ∧ _); refine ⟨rfl, ?_⟩)
  | ((with_reducible show ∃ _ _, _ = _ ∧ _ = _ ∧ _); refine ⟨_, _, rfl, rfl, ?_⟩)
  | ((with_reducible show ∃ _ _, _ = _ ∧ _); refine ⟨_, _, rfl, ?_⟩)
  | ((with_reducible show ∃ _ _ _, _ = _ ∧ _); refine ⟨_, _, _, rfl, ?_⟩)
  | ((with_reducible show (_ ≤ _ ∧ _) ∧ _); refine ⟨by omega, ?_⟩)
  | with_reducible refine add_int ?_ | with_reducible refine sub_int ?_
  | with_reducible refine lt_int ?_ | with_reducible refine le_int ?_ | with_reducible refine gt_int ?_ | with_reducible refine ge_int ?_
  | with_reducible refine int_int ?_
  | with_reducible refine eq_int ?_ | with_reducible refine ne_int ?_
  | with_reducible refine len_tup ?_ | with_reducible refine len_lst ?_
  | ((with_reducible show rdIx (.cel _) (.int _) _ _); refine ix_cel (by bv_omega) (by rfl) ?_)
  | ((with_reducible show rdIx (.lst _) (.int _) _ _); refine ix_lst (by rfl) ?_)
  | ((with_reducible show rdIx (.tup _) (.int _) _ _); refine ix_tup (by rfl) ?_)
  | ((with_reducible show rdLen [.cel _] _ _); refine len_cel (by bv_omega) ?_)
  | ((with_reducible show rdMul (.int _) (.int _) _ _); first | refine mul_l (by decide) (by decide) ?_ | refine mul_r (by decide) (by decide) ?_ | refine mul_l (by omega) (by omega) ?_ | refine mul_r (by omega) (by omega) ?_)
  | ((with_reducible show rdDiv (.int _) (.int _) _ _); refine div_int (by first | decide | assumption | omega) (by first | decide | assumption | omega) ?_)
  | ((with_reducible show rdDivmod [.int _, .int _] _ _); refine dm_int (by first | decide | assumption | omega) (by first | decide | assumption | omega) ?_)
  | ((with_reducible show @ite _ (_ = true) _ _ _); first | refine ifYes (by first | with_reducible rfl | exact Bool.not_false | assumption) ?_ | refine ifNo (by first | with_reducible rfl | exact Bool.not_true | assumption) ?_)
  | ((with_reducible show ∃ _, _ ∧ _); refine ⟨_, celL_of (by bv_omega), ?_⟩)
  | ((with_reducible show ∃ _ _ _ _, _ ∧ _ ∧ _ ∧ _ ∧ _); refine ⟨_, _, _, _, rfl, rfl, by bv_omega, by rfl, ?_⟩)
  | ((with_reducible show (_ : Nat) ≤ sizeLine ∧ _); refine ⟨by rw [sizeLine_eq]; exact Nat.le_of_ble_eq_true rfl, ?_⟩))
local macro_rules | `(tactic| infer_instance) => `(tactic| ((repeat symm); try dsimp only))
local macro_rules | `(tactic| ac_rfl) => `(tactic| ((repeat (first | symm | ((with_reducible show rdMod (.int _) (.int _) _ _); refine mod_any (by first | decide | assumption | omega) ?_; intro _ _ _))); try dsimp only))
def abcf : List Str := ["a", "b", "c", "d", "e", "f"]
end R
set_option maxRecDepth 100000
namespace R
open PySem PySem.Spec PyProof.Rows L2 DL
end R
set_option maxRecDepth 100000
set_option maxHeartbeats 1000000
namespace R
open PySem PySem.Spec PyProof.Rows L2 DL
local macro_rules | `(tactic| bv_omega) => `(tactic| first | assumption | exact mset_same)
local macro_rules | `(tactic| symm) => `(tactic| first
  | ((with_reducible show ∃ _, _ = _ ∧ _); refine ⟨_, rfl, ?_⟩)
  | ((with_reducible show _ = _ ∧ _); refine ⟨rfl, ?_⟩)
  | ((with_reducible show ∃ _ _, _ = _ ∧ _ = _ ∧ _); refine ⟨_, _, rfl, rfl, ?_⟩)
  | ((with_reducible show ∃ _ _, _ = _ ∧ _); refine ⟨_, _, rfl, ?_⟩)
  | ((with_reducible show ∃ _ _ _, _ = _ ∧ _); refine ⟨_, _, _, rfl, ?_⟩)
  | ((with_reducible show (_ ≤ _ ∧ _) ∧ _); refine ⟨by omega, ?_⟩)
  | with_reducible refine add_int ?_ | with_reducible refine sub_int ?_
  | with_reducible refine lt_int ?_ | with_reducible refine le_int ?_ | with_reducible refine gt_int ?_ | with_reducible refine ge_int ?_
  | with_reducible refine int_int ?_
  | with_reducible refine eq_int ?_ | with_reducible refine ne_int ?_
  | with_reducible refine len_tup ?_ | with_reducible refine len_lst ?_
  | ((with_reducible show rdIx (.cel _) (.int _) _ _); refine ix_cel (by bv_omega) (by rfl) ?_)
  | ((with_reducible show rdIx (.lst _) (.int _) _ _); refine ix_lst (by rfl) ?_)
  | ((with_reducible show rdIx (.tup _) (.int _) _ _); refine ix_tup (by rfl) ?_)
  | ((with_reducible show rdLen [.cel _] _ _); refine len_cel (by bv_omega) ?_)
  | ((with_reducible show rdMul (.int _) (.int _) _ _); first | refine mul_l (by decide) (by decide) ?_ | refine mul_r (by decide) (by decide) ?_ | refine mul_l (by omega) (by omega) ?_ | refine mul_r (by omega) (by omega) ?_)
  | ((with_reducible show rdDiv (.int _) (.int _) _ _); refine div_int (by first | decide | assumption | omega) (by first | decide | assumption | omega) ?_)
  | ((with_reducible show rdDivmod [.int _, .int _] _ _); refine dm_int (by first | decide | assumption | omega) (by first | decide | assumption | omega) ?_)
  | ((with_reducible show @ite _ (_ = true) _ _ _); first | refine ifYes (by first | with_reducible rfl | exact Bool.not_false | assumption) ?_ | refine ifNo (by first | with_reducible rfl | exact Bool.not_true | assumption) ?_)
  | ((with_reducible show ∃ _, _ ∧ _); refine ⟨_, celL_of (by bv_omega), ?_⟩)
  | ((with_reducible show ∃ _ _ _ _, _ ∧ _ ∧ _ ∧ _ ∧ _); refine ⟨_, _, _, _, rfl, rfl, by bv_omega, by rfl, ?_⟩)
  | ((with_reducible show (_ : Nat) ≤ sizeLine ∧ _); refine ⟨by rw [sizeLine_eq]; exact Nat.le_of_ble_eq_true rfl, ?_⟩))
local macro_rules | `(tactic| infer_instance) => `(tactic| ((repeat symm); try dsimp only))
local macro_rules | `(tactic| ac_rfl) => `(tactic| ((repeat (first | symm | ((with_reducible show rdMod (.int _) (.int _) _ _); refine mod_any (by first | decide | assumption | omega) ?_; intro _ _ _))); try dsimp only))
structure Vast (size : Int) (n : Nat) (hs : List Host) : Prop where
  few : hs.length ≤ n
  names : ∀ h ∈ hs, h.name ∈ abcf.take n
  each : ∀ h ∈ hs, HostT size h
  apart : hs.Pairwise Apart
  marks : ∀ h ∈ hs, h.marks.length ≤ 4 ∧ h.rack ∈ (["r1", "r2", "r3"] : List Str)
theorem Vast.more {size : Int} {n : Nat} {hs : List Host} (G : Vast size n hs) : Vast size (n + 1) hs :=
  ⟨Nat.le_succ_of_le G.few, fun h hh => by rw [List.take_add_one]; exact List.mem_append_left _ (G.names h hh), G.each, G.apart, G.marks⟩
end R
set_option maxRecDepth 100000
set_option maxHeartbeats 1000000
namespace R
open PySem PySem.Spec PyProof.Rows L2 DL
local macro_rules | `(tactic| bv_omega) => `(tactic| first | assumption | exact mset_same)
local macro_rules | `(tactic| symm) => `(tactic| first
  | ((with_reducible show ∃ _, _ = _ ∧ _); refine ⟨_, rfl, ?_⟩)
  | ((with_reducible show _ = _ ∧ _); refine ⟨rfl, ?_⟩)
  | ((with_reducible show ∃ _ _, _ = _ ∧ _ = _ ∧ _); refine ⟨_, _, rfl, rfl, ?_⟩)
  | ((with_reducible show ∃ _ _, _ = _ ∧ _); refine ⟨_, _, rfl, ?_⟩)
  | ((with_reducible show ∃ _ _ _, _ = _ ∧ _); refine ⟨_, _, _, rfl, ?_⟩)
  | ((with_reducible show (_ ≤ _ ∧ _) ∧ _); refine ⟨by omega, ?_⟩)
  | with_reducible refine add_int ?_ | with_reducible refine sub_int ?_
  | with_reducible refine lt_int ?_ | with_reducible refine le_int ?_ | with_reducible refine gt_int ?_ | with_reducible refine ge_int ?_
  | with_reducible refine int_int ?_
  | with_reducible refine eq_int ?_ | with_reducible refine ne_int ?_
  | with_reducible refine len_tup ?_ | with_reducible refine len_lst ?_
  | ((with_reducible show rdIx (.cel _) (.int _) _ _); refine ix_cel (by bv_omega) (by rfl) ?_)
  | ((with_reducible show rdIx (.lst _) (.int _) _ _); refine ix_lst (by rfl) ?_)
  | ((with_reducible show rdIx (.tup _) (.int _) _ _); refine ix_tup (by rfl) ?_)
  | ((with_reducible show rdLen [.cel _] _ _); refine len_cel (by bv_omega) ?_)
  | ((with_reducible show rdMul (.int _) (.int _) _ _); first | refine mul_l (by decide) (by decide) ?_ | refine mul_r (by decide) (by decide) ?_ | refine mul_l (by omega) (by omega) ?_ | refine mul_r (by omega) (by omega) ?_)
  | ((with_reducible show rdDiv (.int _) (.int _) _ _); refine div_int (by first | decide | assumption | omega) (by first | decide | assumption | omega) ?_)
  | ((with_reducible show rdDivmod [.int _, .int _] _ _); refine dm_int (by first | decide | assumption | omega) (by first | decide | assumption | omega) ?_)
  | ((with_reducible show @ite _ (_ = true) _ _ _); first | refine ifYes (by first | with_reducible rfl | exact Bool.not_false | assumption) ?_ | refine ifNo (by first | with_reducible rfl | exact Bool.not_true | assumption) ?_)
  | ((with_reducible show ∃ _, _ ∧ _); refine ⟨_, celL_of (by bv_omega), ?_⟩)
  | ((with_reducible show ∃ _ _ _ _, _ ∧ _ ∧ _ ∧ _ ∧ _); refine ⟨_, _, _, _, rfl, rfl, by bv_omega, by rfl, ?_⟩)
  | ((with_reducible show (_ : Nat) ≤ sizeLine ∧ _); refine ⟨by rw [sizeLine_eq]; exact Nat.le_of_ble_eq_true rfl, ?_⟩))
local macro_rules | `(tactic| infer_instance) => `(tactic| ((repeat symm); try dsimp only))
local macro_rules | `(tactic| ac_rfl) => `(tactic| ((repeat (first | symm | ((with_reducible show rdMod (.int _) (.int _) _ _); refine mod_any (by first | decide | assumption | omega) ?_; intro _ _ _))); try dsimp only))
/-- the names of both, ascending -/
structure Both (hs hs' : List Host) (ys : List Str) : Prop where
  nd : ys.Nodup
  mem : ∀ x, x ∈ ys ↔ x ∈ hs.map (·.name) ∨ x ∈ hs'.map (·.name)
  asc : PyProof.Rows.sortedS ys = true
end R
set_option maxRecDepth 100000
namespace R
open PySem PySem.Spec PyProof.Rows L2 DL
end R
set_option maxRecDepth 100000
set_option maxHeartbeats 1000000
namespace R
open PySem PySem.Spec PyProof.Rows L2 DL
local macro_rules | `(tactic| bv_omega) => `(tactic| first | assumption | exact mset_same)
local macro_rules | `(tactic| symm) => `(tactic| first
  | ((with_reducible show ∃ _, _ = _ ∧ _); refine ⟨_, rfl, ?_⟩)
  | ((with_reducible show _ = _ ∧ _); refine ⟨rfl, ?_⟩)
  | ((with_reducible show ∃ _ _, _ = _ ∧ _ = _ ∧ _); refine ⟨_, _, rfl, rfl, ?_⟩)
  | ((with_reducible show ∃ _ _, _ = _ ∧ _); refine ⟨_, _, rfl, ?_⟩)
  | ((with_reducible show ∃ _ _ _, _ = _ ∧ _); refine ⟨_, _, _, rfl, ?_⟩)
  | ((with_reducible show (_ ≤ _ ∧ _) ∧ _); refine ⟨by omega, ?_⟩)
  | with_reducible refine add_int ?_ | with_reducible refine sub_int ?_
  | with_reducible refine lt_int ?_ | with_reducible refine le_int ?_ | with_reducible refine gt_int ?_ | with_reducible refine ge_int ?_
  | with_reducible refine int_int ?_
  | with_reducible refine eq_int ?_ | with_reducible refine ne_int ?_
  | with_reducible refine len_tup ?_ | with_reducible refine len_lst ?_
  | ((with_reducible show rdIx (.cel _) (.int _) _ _); refine ix_cel (by bv_omega) (by rfl) ?_)
  | ((with_reducible show rdIx (.lst _) (.int _) _ _); refine ix_lst (by rfl) ?_)
  | ((with_reducible show rdIx (.tup _) (.int _) _ _); refine ix_tup (by rfl) ?_)
  | ((with_reducible show rdLen [.cel _] _ _); refine len_cel (by bv_omega) ?_)
  | ((with_reducible show rdMul (.int _) (.int _) _ _); first | refine mul_l (by decide) (by decide) ?_ | refine mul_r (by decide) (by decide) ?_ | refine mul_l (by omega) (by omega) ?_ | refine mul_r (by omega) (by omega) ?_)
  | ((with_reducible show rdDiv (.int _) (.int _) _ _); refine div_int (by first | decide | assumption | omega) (by first | decide | assumption | omega) ?_)
  | ((with_reducible show rdDivmod [.int _, .int _] _ _); refine dm_int (by first | decide | assumption | omega) (by first | decide | assumption | omega) ?_)
  | ((with_reducible show @ite _ (_ = true) _ _ _); first | refine ifYes (by first | with_reducible rfl | exact Bool.not_false | assumption) ?_ | refine ifNo (by first | with_reducible rfl | exact Bool.not_true | assumption) ?_)
  | ((with_reducible show ∃ _, _ ∧ _); refine ⟨_, celL_of (by bv_omega), ?_⟩)
  | ((with_reducible show ∃ _ _ _ _, _ ∧ _ ∧ _ ∧ _ ∧ _); refine ⟨_, _, _, _, rfl, rfl, by bv_omega, by rfl, ?_⟩)
  | ((with_reducible show (_ : Nat) ≤ sizeLine ∧ _); refine ⟨by rw [sizeLine_eq]; exact Nat.le_of_ble_eq_true rfl, ?_⟩))
local macro_rules | `(tactic| infer_instance) => `(tactic| ((repeat symm); try dsimp only))
local macro_rules | `(tactic| ac_rfl) => `(tactic| ((repeat (first | symm | ((with_reducible show rdMod (.int _) (.int _) _ _); refine mod_any (by first | decide | assumption | omega) ?_; intro _ _ _))); try dsimp only))
theorem Both.uniq {hs hs' : List Host} {ys zs : List Str} (a : Both hs hs' ys) (b : Both hs hs' zs) : zs = ys := sortedS_uniq ((List.perm_ext_iff_of_nodup b.nd a.nd).mpr fun x => (b.mem x).trans (a.mem x).symm) b.asc a.asc
theorem Both.swap {hs hs' : List Host} {ys : List Str} (a : Both hs hs' ys) : Both hs' hs ys := ⟨a.nd, fun x => (a.mem x).trans Or.comm, a.asc⟩
end R
set_option maxRecDepth 100000
set_option maxHeartbeats 1000000
namespace R
open PySem PySem.Spec PyProof.Rows L2 DL
local macro_rules | `(tactic| bv_omega) => `(tactic| first | assumption | exact mset_same)
local macro_rules | `(tactic| symm) => `(tactic| first
  | ((with_reducible show ∃ _, _ = _ ∧ _); refine ⟨_, rfl, ?_⟩)
  | ((with_reducible show _ = _ ∧ _); refine ⟨rfl, ?_⟩)
  | ((with_reducible show ∃ _ _, _ = _ ∧ _ = _ ∧ _); refine ⟨_, _, rfl, rfl, ?_⟩)
  | ((with_reducible show ∃ _ _, _ = _ ∧ _); refine ⟨_, _, rfl, ?_⟩)
  | ((with_reducible show ∃ _ _ _, _ = _ ∧ _); refine ⟨_, _, _, rfl, ?_⟩)
  | ((with_reducible show (_ ≤ _ ∧ _) ∧ _); refine ⟨by omega, ?_⟩)
  | with_reducible refine add_int ?_ | with_reducible refine sub_int ?_
  | with_reducible refine lt_int ?_ | with_reducible refine le_int ?_ | with_reducible refine gt_int ?_ | with_reducible refine ge_int ?_
  | with_reducible refine int_int ?_
  | with_reducible refine eq_int ?_ | with_reducible refine ne_int ?_
  | with_reducible refine len_tup ?_ | with_reducible refine len_lst ?_
  | ((with_reducible show rdIx (.cel _) (.int _) _ _); refine ix_cel (by bv_omega) (by rfl) ?_)
  | ((with_reducible show rdIx (.lst _) (.int _) _ _); refine ix_lst (by rfl) ?_)
  | ((with_reducible show rdIx (.tup _) (.int _) _ _); refine ix_tup (by rfl) ?_)
  | ((with_reducible show rdLen [.cel _] _ _); refine len_cel (by bv_omega) ?_)
  | ((with_reducible show rdMul (.int _) (.int _) _ _); first | refine mul_l (by decide) (by decide) ?_ | refine mul_r (by decide) (by decide) ?_ | refine mul_l (by omega) (by omega) ?_ | refine mul_r (by omega) (by omega) ?_)
  | ((with_reducible show rdDiv (.int _) (.int _) _ _); refine div_int (by first | decide | assumption | omega) (by first | decide | assumption | omega) ?_)
  | ((with_reducible show rdDivmod [.int _, .int _] _ _); refine dm_int (by first | decide | assumption | omega) (by first | decide | assumption | omega) ?_)
  | ((with_reducible show @ite _ (_ = true) _ _ _); first | refine ifYes (by first | with_reducible rfl | exact Bool.not_false | assumption) ?_ | refine ifNo (by first | with_reducible rfl | exact Bool.not_true | assumption) ?_)
  | ((with_reducible show ∃ _, _ ∧ _); refine ⟨_, celL_of (by bv_omega), ?_⟩)
  | ((with_reducible show ∃ _ _ _ _, _ ∧ _ ∧ _ ∧ _ ∧ _); refine ⟨_, _, _, _, rfl, rfl, by bv_omega, by rfl, ?_⟩)
  | ((with_reducible show (_ : Nat) ≤ sizeLine ∧ _); refine ⟨by rw [sizeLine_eq]; exact Nat.le_of_ble_eq_true rfl, ?_⟩))
local macro_rules | `(tactic| infer_instance) => `(tactic| ((repeat symm); try dsimp only))
local macro_rules | `(tactic| ac_rfl) => `(tactic| ((repeat (first | symm | ((with_reducible show rdMod (.int _) (.int _) _ _); refine mod_any (by first | decide | assumption | omega) ?_; intro _ _ _))); try dsimp only))
theorem filt_len {α : Type} : ∀ (l : List α) (p : α → Bool), (l.filter p).length + (l.filter fun x => !p x).length = l.length
  | [], _ => rfl
  | x :: l, p => by
    have ih := filt_len l p
    rw [List.filter_cons, List.filter_cons]
    cases p x <;> simp <;> omega
end R
set_option maxRecDepth 100000
set_option maxHeartbeats 1000000
namespace R
open PySem PySem.Spec PyProof.Rows L2 DL
local macro_rules | `(tactic| bv_omega) => `(tactic| first | assumption | exact mset_same)
local macro_rules | `(tactic| symm) => `(tactic| first
  | ((with_reducible show ∃ _, _ = _ ∧ _); refine ⟨_, rfl, ?_⟩)
  | ((with_reducible show _ = _ ∧ _); refine ⟨rfl, ?_⟩)
  | ((with_reducible show ∃ _ _, _ = _ ∧ _ = _ ∧ _); refine ⟨_, _, rfl, rfl, ?_⟩)
  | ((with_reducible show ∃ _ _, _ = _ ∧ _); refine ⟨_, _, rfl, ?_⟩)
  | ((with_reducible show ∃ _ _ _, _ = _ ∧ _); refine ⟨_, _, _, rfl, ?_⟩)
  | ((with_reducible show (_ ≤ _ ∧ _) ∧ _); refine ⟨by omega, ?_⟩)
  | with_reducible refine add_int ?_ | with_reducible refine sub_int ?_
  | with_reducible refine lt_int ?_ | with_reducible refine le_int ?_ | with_reducible refine gt_int ?_ | with_reducible refine ge_int ?_
  | with_reducible refine int_int ?_
  | with_reducible refine eq_int ?_ | with_reducible refine ne_int ?_
  | with_reducible refine len_tup ?_ | with_reducible refine len_lst ?_
  | ((with_reducible show rdIx (.cel _) (.int _) _ _); refine ix_cel (by bv_omega) (by rfl) ?_)
  | ((with_reducible show rdIx (.lst _) (.int _) _ _); refine ix_lst (by rfl) ?_)
  | ((with_reducible show rdIx (.tup _) (.int _) _ _); refine ix_tup (by rfl) ?_)
  | ((with_reducible show rdLen [.cel _] _ _); refine len_cel (by bv_omega) ?_)
  | ((with_reducible show rdMul (.int _) (.int _) _ _); first | refine mul_l (by decide) (by decide) ?_ | refine mul_r (by decide) (by decide) ?_ | refine mul_l (by omega) (by omega) ?_ | refine mul_r (by omega) (by omega) ?_)
  | ((with_reducible show rdDiv (.int _) (.int _) _ _); refine div_int (by first | decide | assumption | omega) (by first | decide | assumption | omega) ?_)
  | ((with_reducible show rdDivmod [.int _, .int _] _ _); refine dm_int (by first | decide | assumption | omega) (by first | decide | assumption | omega) ?_)
  | ((with_reducible show @ite _ (_ = true) _ _ _); first | refine ifYes (by first | with_reducible rfl | exact Bool.not_false | assumption) ?_ | refine ifNo (by first | with_reducible rfl | exact Bool.not_true | assumption) ?_)
  | ((with_reducible show ∃ _, _ ∧ _); refine ⟨_, celL_of (by bv_omega), ?_⟩)
  | ((with_reducible show ∃ _ _ _ _, _ ∧ _ ∧ _ ∧ _ ∧ _); refine ⟨_, _, _, _, rfl, rfl, by bv_omega, by rfl, ?_⟩)
  | ((with_reducible show (_ : Nat) ≤ sizeLine ∧ _); refine ⟨by rw [sizeLine_eq]; exact Nat.le_of_ble_eq_true rfl, ?_⟩))
local macro_rules | `(tactic| infer_instance) => `(tactic| ((repeat symm); try dsimp only))
local macro_rules | `(tactic| ac_rfl) => `(tactic| ((repeat (first | symm | ((with_reducible show rdMod (.int _) (.int _) _ _); refine mod_any (by first | decide | assumption | omega) ?_; intro _ _ _))); try dsimp only))
noncomputable def cntK (size : Int) (r : Rule) (hs : List Host) (x : Str) (p : Int) : Int := if decide (x ∈ keepF size r hs p) = true then 1 else 0
theorem kept_all {size : Int} {r : Rule} {hs : List Host} (s1 : 1 ≤ size) (hc : CrewOk size hs) (x : Str) : keptN size r hs x = sumTo (cntK size r hs x) size.toNat := by
  unfold keptN
  rw [filter_wsum (p := fun m => decide (x ∈ keepF size r hs m))]
  exact cells_sumTo s1 hc (fun w => if decide (x ∈ keepersOf r hs w) = true then 1 else 0)
end R
set_option maxRecDepth 100000
set_option maxHeartbeats 4000000
namespace DL
open PySem PySem.Spec PyProof.Rows L2 SrtO
end DL
set_option maxRecDepth 100000
set_option maxHeartbeats 1000000
namespace R
open PySem PySem.Spec PyProof.Rows L2 DL
local macro_rules | `(tactic| bv_omega) => `(tactic| first | assumption | exact mset_same)
local macro_rules | `(tactic| symm) => `(tactic| first
  | ((with_reducible show ∃ _, _ = _ ∧ _); refine ⟨_, rfl, ?_⟩)
  | ((with_reducible show _ = _ ∧ _); refine ⟨rfl, ?_⟩)
  | ((with_reducible show ∃ _ _, _ = _ ∧ _ = _ ∧ _); refine ⟨_, _, rfl, rfl, ?_⟩)
  | ((with_reducible show ∃ _ _, _ = _ ∧ _); refine ⟨_, _, rfl, ?_⟩)
  | ((with_reducible show ∃ _ _ _, _ = _ ∧ _); refine ⟨_, _, _, rfl, ?_⟩)
  | ((with_reducible show (_ ≤ _ ∧ _) ∧ _); refine ⟨by omega, ?_⟩)
  | with_reducible refine add_int ?_ | with_reducible refine sub_int ?_
  | with_reducible refine lt_int ?_ | with_reducible refine le_int ?_ | with_reducible refine gt_int ?_ | with_reducible refine ge_int ?_
  | with_reducible refine int_int ?_
  | with_reducible refine eq_int ?_ | with_reducible refine ne_int ?_
  | with_reducible refine len_tup ?_ | with_reducible refine len_lst ?_
  | ((with_reducible show rdIx (.cel _) (.int _) _ _); refine ix_cel (by bv_omega) (by rfl) ?_)
  | ((with_reducible show rdIx (.lst _) (.int _) _ _); refine ix_lst (by rfl) ?_)
  | ((with_reducible show rdIx (.tup _) (.int _) _ _); refine ix_tup (by rfl) ?_)
  | ((with_reducible show rdLen [.cel _] _ _); refine len_cel (by bv_omega) ?_)
  | ((with_reducible show rdMul (.int _) (.int _) _ _); first | refine mul_l (by decide) (by decide) ?_ | refine mul_r (by decide) (by decide) ?_ | refine mul_l (by omega) (by omega) ?_ | refine mul_r (by omega) (by omega) ?_)
  | ((with_reducible show rdDiv (.int _) (.int _) _ _); refine div_int (by first | decide | assumption | omega) (by first | decide | assumption | omega) ?_)
  | ((with_reducible show rdDivmod [.int _, .int _] _ _); refine dm_int (by first | decide | assumption | omega) (by first | decide | assumption | omega) ?_)
  | ((with_reducible show @ite _ (_ = true) _ _ _); first | refine ifYes (by first | with_reducible rfl | exact Bool.not_false | assumption) ?_ | refine ifNo (by first | with_reducible rfl | exact Bool.not_true | assumption) ?_)
  | ((with_reducible show ∃ _, _ ∧ _); refine ⟨_, celL_of (by bv_omega), ?_⟩)
  | ((with_reducible show ∃ _ _ _ _, _ ∧ _ ∧ _ ∧ _ ∧ _); refine ⟨_, _, _, _, rfl, rfl, by bv_omega, by rfl, ?_⟩)
  | ((with_reducible show (_ : Nat) ≤ sizeLine ∧ _); refine ⟨by rw [sizeLine_eq]; exact Nat.le_of_ble_eq_true rfl, ?_⟩))
local macro_rules | `(tactic| infer_instance) => `(tactic| ((repeat symm); try dsimp only))
local macro_rules | `(tactic| ac_rfl) => `(tactic| ((repeat (first | symm | ((with_reducible show rdMod (.int _) (.int _) _ _); refine mod_any (by first | decide | assumption | omega) ?_; intro _ _ _))); try dsimp only))
end R
set_option maxRecDepth 100000
namespace R
open PySem PySem.Spec PyProof.Rows L2 DL
end R
set_option maxRecDepth 100000
set_option maxHeartbeats 1000000
namespace R
open PySem PySem.Spec PyProof.Rows L2 DL
local macro_rules | `(tactic| bv_omega) => `(tactic| first | assumption | exact mset_same)
local macro_rules | `(tactic| symm) => `(tactic| first
  | ((with_reducible show ∃ _, _ = _ ∧ _); refine ⟨_, rfl, ?_⟩)
  | ((with_reducible show _ = _ ∧ _); refine ⟨rfl, ?_⟩)
  | ((with_reducible show ∃ _ _, _ = _ ∧ _ = _ ∧ _); refine ⟨_, _, rfl, rfl, ?_⟩)
  | ((with_reducible show ∃ _ _, _ = _ ∧ _); refine ⟨_, _, rfl, ?_⟩)
  | ((with_reducible show ∃ _ _ _, _ = _ ∧ _); refine ⟨_, _, _, rfl, ?_⟩)
  | ((with_reducible show (_ ≤ _ ∧ _) ∧ _); refine ⟨by omega, ?_⟩)
  | with_reducible refine add_int ?_ | with_reducible refine sub_int ?_
  | with_reducible refine lt_int ?_ | with_reducible refine le_int ?_ | with_reducible refine gt_int ?_ | with_reducible refine ge_int ?_
  | with_reducible refine int_int ?_
  | with_reducible refine eq_int ?_ | with_reducible refine ne_int ?_
  | with_reducible refine len_tup ?_ | with_reducible refine len_lst ?_
  | ((with_reducible show rdIx (.cel _) (.int _) _ _); refine ix_cel (by bv_omega) (by rfl) ?_)
  | ((with_reducible show rdIx (.lst _) (.int _) _ _); refine ix_lst (by rfl) ?_)
  | ((with_reducible show rdIx (.tup _) (.int _) _ _); refine ix_tup (by rfl) ?_)
  | ((with_reducible show rdLen [.cel _] _ _); refine len_cel (by bv_omega) ?_)
  | ((with_reducible show rdMul (.int _) (.int _) _ _); first | refine mul_l (by decide) (by decide) ?_ | refine mul_r (by decide) (by decide) ?_ | refine mul_l (by omega) (by omega) ?_ | refine mul_r (by omega) (by omega) ?_)
  | ((with_reducible show rdDiv (.int _) (.int _) _ _); refine div_int (by first | decide | assumption | omega) (by first | decide | assumption | omega) ?_)
  | ((with_reducible show rdDivmod [.int _, .int _] _ _); refine dm_int (by first | decide | assumption | omega) (by first | decide | assumption | omega) ?_)
  | ((with_reducible show @ite _ (_ = true) _ _ _); first | refine ifYes (by first | with_reducible rfl | exact Bool.not_false | assumption) ?_ | refine ifNo (by first | with_reducible rfl | exact Bool.not_true | assumption) ?_)
  | ((with_reducible show ∃ _, _ ∧ _); refine ⟨_, celL_of (by bv_omega), ?_⟩)
  | ((with_reducible show ∃ _ _ _ _, _ ∧ _ ∧ _ ∧ _ ∧ _); refine ⟨_, _, _, _, rfl, rfl, by bv_omega, by rfl, ?_⟩)
  | ((with_reducible show (_ : Nat) ≤ sizeLine ∧ _); refine ⟨by rw [sizeLine_eq]; exact Nat.le_of_ble_eq_true rfl, ?_⟩))
local macro_rules | `(tactic| infer_instance) => `(tactic| ((repeat symm); try dsimp only))
local macro_rules | `(tactic| ac_rfl) => `(tactic| ((repeat (first | symm | ((with_reducible show rdMod (.int _) (.int _) _ _); refine mod_any (by first | decide | assumption | omega) ?_; intro _ _ _))); try dsimp only))
theorem sl_lstF {xs : List D} {n : Nat} {M : Mem} {q : QD} (w : q (.lst (xs.drop n)) M) : rdSl (.lst xs) (some (n : Int)) none M q := ⟨xs, rfl, by rw [DL.cut_from]; exact w⟩
end R
set_option maxRecDepth 100000
set_option maxHeartbeats 1000000
namespace R
open PySem PySem.Spec PyProof.Rows L2 DL
local macro_rules | `(tactic| bv_omega) => `(tactic| first | assumption | exact mset_same)
local macro_rules | `(tactic| symm) => `(tactic| first
  | ((with_reducible show ∃ _, _ = _ ∧ _); refine ⟨_, rfl, ?_⟩)
  | ((with_reducible show _ = _ ∧ _); refine ⟨rfl, ?_⟩)
  | ((with_reducible show ∃ _ _, _ = _ ∧ _ = _ ∧ _); refine ⟨_, _, rfl, rfl, ?_⟩)
  | ((with_reducible show ∃ _ _, _ = _ ∧ _); refine ⟨_, _, rfl, ?_⟩)
  | ((with_reducible show ∃ _ _ _, _ = _ ∧ _); refine ⟨_, _, _, rfl, ?_⟩)
  | ((with_reducible show (_ ≤ _ ∧ _) ∧ _); refine ⟨by omega, ?_⟩)
  | with_reducible refine add_int ?_ | with_reducible refine sub_int ?_
  | with_reducible refine lt_int ?_ | with_reducible refine le_int ?_ | with_reducible refine gt_int ?_ | with_reducible refine ge_int ?_
  | with_reducible refine int_int ?_
  | with_reducible refine eq_int ?_ | with_reducible refine ne_int ?_
  | with_reducible refine len_tup ?_ | with_reducible refine len_lst ?_
  | ((with_reducible show rdIx (.cel _) (.int _) _ _); refine ix_cel (by bv_omega) (by rfl) ?_)
  | ((with_reducible show rdIx (.lst _) (.int _) _ _); refine ix_lst (by rfl) ?_)
  | ((with_reducible show rdIx (.tup _) (.int _) _ _); refine ix_tup (by rfl) ?_)
  | ((with_reducible show rdLen [.cel _] _ _); refine len_cel (by bv_omega) ?_)
  | ((with_reducible show rdMul (.int _) (.int _) _ _); first | refine mul_l (by decide) (by decide) ?_ | refine mul_r (by decide) (by decide) ?_ | refine mul_l (by omega) (by omega) ?_ | refine mul_r (by omega) (by omega) ?_)
  | ((with_reducible show rdDiv (.int _) (.int _) _ _); refine div_int (by first | decide | assumption | omega) (by first | decide | assumption | omega) ?_)
  | ((with_reducible show rdDivmod [.int _, .int _] _ _); refine dm_int (by first | decide | assumption | omega) (by first | decide | assumption | omega) ?_)
  | ((with_reducible show @ite _ (_ = true) _ _ _); first | refine ifYes (by first | with_reducible rfl | exact Bool.not_false | assumption) ?_ | refine ifNo (by first | with_reducible rfl | exact Bool.not_true | assumption) ?_)
  | ((with_reducible show ∃ _, _ ∧ _); refine ⟨_, celL_of (by bv_omega), ?_⟩)
  | ((with_reducible show ∃ _ _ _ _, _ ∧ _ ∧ _ ∧ _ ∧ _); refine ⟨_, _, _, _, rfl, rfl, by bv_omega, by rfl, ?_⟩)
  | ((with_reducible show (_ : Nat) ≤ sizeLine ∧ _); refine ⟨by rw [sizeLine_eq]; exact Nat.le_of_ble_eq_true rfl, ?_⟩))
local macro_rules | `(tactic| infer_instance) => `(tactic| ((repeat symm); try dsimp only))
local macro_rules | `(tactic| ac_rfl) => `(tactic| ((repeat (first | symm | ((with_reducible show rdMod (.int _) (.int _) _ _); refine mod_any (by first | decide | assumption | omega) ?_; intro _ _ _))); try dsimp only))
end R
set_option maxRecDepth 100000
set_option maxHeartbeats 1000000
namespace R
open PySem PySem.Spec PyProof.Rows L2 DL
local macro_rules | `(tactic| bv_omega) => `(tactic| first | assumption | exact mset_same)
local macro_rules | `(tactic| symm) => `(tactic| first
  | ((with_reducible show ∃ _, _ = _ ∧ _); refine ⟨_, rfl, ?_⟩)
  | ((with_reducible show _ = _ ∧ _); refine ⟨rfl, ?_⟩)
  | ((with_reducible show ∃ _ _, _ = _ ∧ _ = _ ∧ _); refine ⟨_, _, rfl, rfl, ?_⟩)
  | ((with_reducible show ∃ _ _, _ = _ ∧ _); refine ⟨_, _, rfl, ?_⟩)
  | ((with_reducible show ∃ _ _ _, _ = _ ∧ _); refine ⟨_, _, _, rfl, ?_⟩)
  | ((with_reducible show (_ ≤ _ ∧ _) ∧ _); refine ⟨by omega, ?_⟩)
  | with_reducible refine add_int ?_ | with_reducible refine sub_int ?_
  | with_reducible refine lt_int ?_ | with_reducible refine le_int ?_ | with_reducible refine gt_int ?_ | with_reducible refine ge_int ?_
  | with_reducible refine int_int ?_
  | with_reducible refine eq_int ?_ | with_reducible refine ne_int ?_
  | with_reducible refine len_tup ?_ | with_reducible refine len_lst ?_
  | ((with_reducible show rdIx (.cel _) (.int _) _ _); refine ix_cel (by bv_omega) (by rfl) ?_)
  | ((with_reducible show rdIx (.lst _) (.int _) _ _); refine ix_lst (by rfl) ?_)
  | ((with_reducible show rdIx (.tup _) (.int _) _ _); refine ix_tup (by rfl) ?_)
  | ((with_reducible show rdLen [.cel _] _ _); refine len_cel (by bv_omega) ?_)
  | ((with_reducible show rdMul (.int _) (.int _) _ _); first | refine mul_l (by decide) (by decide) ?_ | refine mul_r (by decide) (by decide) ?_ | refine mul_l (by omega) (by omega) ?_ | refine mul_r (by omega) (by omega) ?_)
  | ((with_reducible show rdDiv (.int _) (.int _) _ _); refine div_int (by first | decide | assumption | omega) (by first | decide | assumption | omega) ?_)
  | ((with_reducible show rdDivmod [.int _, .int _] _ _); refine dm_int (by first | decide | assumption | omega) (by first | decide | assumption | omega) ?_)
  | ((with_reducible show @ite _ (_ = true) _ _ _); first | refine ifYes (by first | with_reducible rfl | exact Bool.not_false | assumption) ?_ | refine ifNo (by first | with_reducible rfl | exact Bool.not_true | assumption) ?_)
  | ((with_reducible show ∃ _, _ ∧ _); refine ⟨_, celL_of (by bv_omega), ?_⟩)
  | ((with_reducible show ∃ _ _ _ _, _ ∧ _ ∧ _ ∧ _ ∧ _); refine ⟨_, _, _, _, rfl, rfl, by bv_omega, by rfl, ?_⟩)
  | ((with_reducible show (_ : Nat) ≤ sizeLine ∧ _); refine ⟨by rw [sizeLine_eq]; exact Nat.le_of_ble_eq_true rfl, ?_⟩))
local macro_rules | `(tactic| infer_instance) => `(tactic| ((repeat symm); try dsimp only))
local macro_rules | `(tactic| ac_rfl) => `(tactic| ((repeat (first | symm | ((with_reducible show rdMod (.int _) (.int _) _ _); refine mod_any (by first | decide | assumption | omega) ?_; intro _ _ _))); try dsimp only))
inductive Linked (size : Int) : Int → List (Int × Int × Int) → Int → Prop
  | nil (p : Int) : Linked size p [] p
  | cons {p m mk e : Int} {l : List (Int × Int × Int)} : 1 ≤ m → m ≤ size → (p + m) % size = mk % size → Linked size mk l e → Linked size p (((p + 1) % size, m, mk) :: l) e
theorem Linked.app {size p q e : Int} {a b : List (Int × Int × Int)} (h : Linked size p a q) (h' : Linked size q b e) : Linked size p (a ++ b) e := by
  induction h with
  | nil => exact h'
  | cons h1 h2 h3 _ ih => exact .cons h1 h2 h3 (ih h')
theorem Linked.split {size p e : Int} {l : List (Int × Int × Int)} (h : Linked size p l e) : ∀ k, ∃ q, Linked size p (l.take k) q ∧ Linked size q (l.drop k) e := by
  induction h with
  | nil p => intro k; exact ⟨p, by rw [List.take_nil]; exact .nil p, by rw [List.drop_nil]; exact .nil p⟩
  | cons h1 h2 h3 h4 ih =>
    intro k
    cases k with
    | zero => exact ⟨_, .nil _, .cons h1 h2 h3 h4⟩
    | succ k =>
      obtain ⟨q, a, b⟩ := ih k
      exact ⟨q, .cons h1 h2 h3 a, b⟩
end R
set_option maxRecDepth 100000
set_option maxHeartbeats 1000000
namespace R
open PySem PySem.Spec PyProof.Rows L2 DL
local macro_rules | `(tactic| bv_omega) => `(tactic| first | assumption | exact mset_same)
local macro_rules | `(tactic| symm) => `(tactic| first
  | ((with_reducible show ∃ _, _ = _ ∧ _); refine ⟨_, rfl, ?_⟩)
  | ((with_reducible show _ = _ ∧ _); refine ⟨rfl, ?_⟩)
  | ((with_reducible show ∃ _ _, _ = _ ∧ _ = _ ∧ _); refine ⟨_, _, rfl, rfl, ?_⟩)
  | ((with_reducible show ∃ _ _, _ = _ ∧ _); refine ⟨_, _, rfl, ?_⟩)
  | ((with_reducible show ∃ _ _ _, _ = _ ∧ _); refine ⟨_, _, _, rfl, ?_⟩)
  | ((with_reducible show (_ ≤ _ ∧ _) ∧ _); refine ⟨by omega, ?_⟩)
  | with_reducible refine add_int ?_ | with_reducible refine sub_int ?_
  | with_reducible refine lt_int ?_ | with_reducible refine le_int ?_ | with_reducible refine gt_int ?_ | with_reducible refine ge_int ?_
  | with_reducible refine int_int ?_
  | with_reducible refine eq_int ?_ | with_reducible refine ne_int ?_
  | with_reducible refine len_tup ?_ | with_reducible refine len_lst ?_
  | ((with_reducible show rdIx (.cel _) (.int _) _ _); refine ix_cel (by bv_omega) (by rfl) ?_)
  | ((with_reducible show rdIx (.lst _) (.int _) _ _); refine ix_lst (by rfl) ?_)
  | ((with_reducible show rdIx (.tup _) (.int _) _ _); refine ix_tup (by rfl) ?_)
  | ((with_reducible show rdLen [.cel _] _ _); refine len_cel (by bv_omega) ?_)
  | ((with_reducible show rdMul (.int _) (.int _) _ _); first | refine mul_l (by decide) (by decide) ?_ | refine mul_r (by decide) (by decide) ?_ | refine mul_l (by omega) (by omega) ?_ | refine mul_r (by omega) (by omega) ?_)
  | ((with_reducible show rdDiv (.int _) (.int _) _ _); refine div_int (by first | decide | assumption | omega) (by first | decide | assumption | omega) ?_)
  | ((with_reducible show rdDivmod [.int _, .int _] _ _); refine dm_int (by first | decide | assumption | omega) (by first | decide | assumption | omega) ?_)
  | ((with_reducible show @ite _ (_ = true) _ _ _); first | refine ifYes (by first | with_reducible rfl | exact Bool.not_false | assumption) ?_ | refine ifNo (by first | with_reducible rfl | exact Bool.not_true | assumption) ?_)
  | ((with_reducible show ∃ _, _ ∧ _); refine ⟨_, celL_of (by bv_omega), ?_⟩)
  | ((with_reducible show ∃ _ _ _ _, _ ∧ _ ∧ _ ∧ _ ∧ _); refine ⟨_, _, _, _, rfl, rfl, by bv_omega, by rfl, ?_⟩)
  | ((with_reducible show (_ : Nat) ≤ sizeLine ∧ _); refine ⟨by rw [sizeLine_eq]; exact Nat.le_of_ble_eq_true rfl, ?_⟩))
local macro_rules | `(tactic| infer_instance) => `(tactic| ((repeat symm); try dsimp only))
local macro_rules | `(tactic| ac_rfl) => `(tactic| ((repeat (first | symm | ((with_reducible show rdMod (.int _) (.int _) _ _); refine mod_any (by first | decide | assumption | omega) ?_; intro _ _ _))); try dsimp only))
end R
set_option maxRecDepth 100000
set_option maxHeartbeats 1000000
namespace R
open PySem PySem.Spec PyProof.Rows L2 DL
local macro_rules | `(tactic| bv_omega) => `(tactic| first | assumption | exact mset_same)
local macro_rules | `(tactic| symm) => `(tactic| first
  | ((with_reducible show ∃ _, _ = _ ∧ _); refine ⟨_, rfl, ?_⟩)
  | ((with_reducible show _ = _ ∧ _); refine ⟨rfl, ?_⟩)
  | ((with_reducible show ∃ _ _, _ = _ ∧ _ = _ ∧ _); refine ⟨_, _, rfl, rfl, ?_⟩)
  | ((with_reducible show ∃ _ _, _ = _ ∧ _); refine ⟨_, _, rfl, ?_⟩)
  | ((with_reducible show ∃ _ _ _, _ = _ ∧ _); refine ⟨_, _, _, rfl, ?_⟩)
  | ((with_reducible show (_ ≤ _ ∧ _) ∧ _); refine ⟨by omega, ?_⟩)
  | with_reducible refine add_int ?_ | with_reducible refine sub_int ?_
  | with_reducible refine lt_int ?_ | with_reducible refine le_int ?_ | with_reducible refine gt_int ?_ | with_reducible refine ge_int ?_
  | with_reducible refine int_int ?_
  | with_reducible refine eq_int ?_ | with_reducible refine ne_int ?_
  | with_reducible refine len_tup ?_ | with_reducible refine len_lst ?_
  | ((with_reducible show rdIx (.cel _) (.int _) _ _); refine ix_cel (by bv_omega) (by rfl) ?_)
  | ((with_reducible show rdIx (.lst _) (.int _) _ _); refine ix_lst (by rfl) ?_)
  | ((with_reducible show rdIx (.tup _) (.int _) _ _); refine ix_tup (by rfl) ?_)
  | ((with_reducible show rdLen [.cel _] _ _); refine len_cel (by bv_omega) ?_)
  | ((with_reducible show rdMul (.int _) (.int _) _ _); first | refine mul_l (by decide) (by decide) ?_ | refine mul_r (by decide) (by decide) ?_ | refine mul_l (by omega) (by omega) ?_ | refine mul_r (by omega) (by omega) ?_)
  | ((with_reducible show rdDiv (.int _) (.int _) _ _); refine div_int (by first | decide | assumption | omega) (by first | decide | assumption | omega) ?_)
  | ((with_reducible show rdDivmod [.int _, .int _] _ _); refine dm_int (by first | decide | assumption | omega) (by first | decide | assumption | omega) ?_)
  | ((with_reducible show @ite _ (_ = true) _ _ _); first | refine ifYes (by first | with_reducible rfl | exact Bool.not_false | assumption) ?_ | refine ifNo (by first | with_reducible rfl | exact Bool.not_true | assumption) ?_)
  | ((with_reducible show ∃ _, _ ∧ _); refine ⟨_, celL_of (by bv_omega), ?_⟩)
  | ((with_reducible show ∃ _ _ _ _, _ ∧ _ ∧ _ ∧ _ ∧ _); refine ⟨_, _, _, _, rfl, rfl, by bv_omega, by rfl, ?_⟩)
  | ((with_reducible show (_ : Nat) ≤ sizeLine ∧ _); refine ⟨by rw [sizeLine_eq]; exact Nat.le_of_ble_eq_true rfl, ?_⟩))
local macro_rules | `(tactic| infer_instance) => `(tactic| ((repeat symm); try dsimp only))
local macro_rules | `(tactic| ac_rfl) => `(tactic| ((repeat (first | symm | ((with_reducible show rdMod (.int _) (.int _) _ _); refine mod_any (by first | decide | assumption | omega) ?_; intro _ _ _))); try dsimp only))
/-- arcs in their order that do not meet and are not beside one another -/
structure ArcsOk (size : Int) (ps : List (Int × Int)) : Prop where
  asc : ps.Pairwise (fun a b => a.1 < b.1)
  each : ∀ a ∈ ps, 0 ≤ a.1 ∧ a.1 < size ∧ 1 ≤ a.2 ∧ a.2 < size
  gap : ∀ a ∈ ps, ∀ b ∈ ps, a ≠ b → (b.1 - a.1 - a.2) % size ≠ 0
  all : (ps.map (·.2)).sum < size
theorem mod_same {size a b : Int} (h : a % size = b % size) (h1 : a - b < size) (h2 : b - a < size) : a = b := by
  have e := Int.emod_emod_of_dvd a (Int.dvd_refl size)
  have h3 : (a - b) % size = 0 := by rw [Int.sub_emod, h, Int.sub_self, Int.zero_emod]
  obtain ⟨k, hk⟩ := Int.dvd_of_emod_eq_zero h3
  have : k = 0 := by
    rcases Int.lt_trichotomy k 0 with z | z | z
    · exfalso
      have : size * k ≤ size * (-1) := Int.mul_le_mul_of_nonneg_left (by omega) (by omega)
      omega
    · exact z
    · exfalso
      have : size * 1 ≤ size * k := Int.mul_le_mul_of_nonneg_left (by omega) (by omega)
      omega
  rw [this, Int.mul_zero] at hk
  omega
end R
set_option maxRecDepth 100000
set_option maxHeartbeats 1000000
namespace R
open PySem PySem.Spec PyProof.Rows L2 DL
local macro_rules | `(tactic| bv_omega) => `(tactic| first | assumption | exact mset_same)
local macro_rules | `(tactic| symm) => `(tactic| first
  | ((with_reducible show ∃ _, _ = _ ∧ _); refine ⟨_, rfl, ?_⟩)
  | ((with_reducible show _ = _ ∧ _); refine ⟨rfl, ?_⟩)
  | ((with_reducible show ∃ _ _, _ = _ ∧ _ = _ ∧ _); refine ⟨_, _, rfl, rfl, ?_⟩)
  | ((with_reducible show ∃ _ _, _ = _ ∧ _); refine ⟨_, _, rfl, ?_⟩)
  | ((with_reducible show ∃ _ _ _, _ = _ ∧ _); refine ⟨_, _, _, rfl, ?_⟩)
  | ((with_reducible show (_ ≤ _ ∧ _) ∧ _); refine ⟨by omega, ?_⟩)
  | with_reducible refine add_int ?_ | with_reducible refine sub_int ?_
  | with_reducible refine lt_int ?_ | with_reducible refine le_int ?_ | with_reducible refine gt_int ?_ | with_reducible refine ge_int ?_
  | with_reducible refine int_int ?_
  | with_reducible refine eq_int ?_ | with_reducible refine ne_int ?_
  | with_reducible refine len_tup ?_ | with_reducible refine len_lst ?_
  | ((with_reducible show rdIx (.cel _) (.int _) _ _); refine ix_cel (by bv_omega) (by rfl) ?_)
  | ((with_reducible show rdIx (.lst _) (.int _) _ _); refine ix_lst (by rfl) ?_)
  | ((with_reducible show rdIx (.tup _) (.int _) _ _); refine ix_tup (by rfl) ?_)
  | ((with_reducible show rdLen [.cel _] _ _); refine len_cel (by bv_omega) ?_)
  | ((with_reducible show rdMul (.int _) (.int _) _ _); first | refine mul_l (by decide) (by decide) ?_ | refine mul_r (by decide) (by decide) ?_ | refine mul_l (by omega) (by omega) ?_ | refine mul_r (by omega) (by omega) ?_)
  | ((with_reducible show rdDiv (.int _) (.int _) _ _); refine div_int (by first | decide | assumption | omega) (by first | decide | assumption | omega) ?_)
  | ((with_reducible show rdDivmod [.int _, .int _] _ _); refine dm_int (by first | decide | assumption | omega) (by first | decide | assumption | omega) ?_)
  | ((with_reducible show @ite _ (_ = true) _ _ _); first | refine ifYes (by first | with_reducible rfl | exact Bool.not_false | assumption) ?_ | refine ifNo (by first | with_reducible rfl | exact Bool.not_true | assumption) ?_)
  | ((with_reducible show ∃ _, _ ∧ _); refine ⟨_, celL_of (by bv_omega), ?_⟩)
  | ((with_reducible show ∃ _ _ _ _, _ ∧ _ ∧ _ ∧ _ ∧ _); refine ⟨_, _, _, _, rfl, rfl, by bv_omega, by rfl, ?_⟩)
  | ((with_reducible show (_ : Nat) ≤ sizeLine ∧ _); refine ⟨by rw [sizeLine_eq]; exact Nat.le_of_ble_eq_true rfl, ?_⟩))
local macro_rules | `(tactic| infer_instance) => `(tactic| ((repeat symm); try dsimp only))
local macro_rules | `(tactic| ac_rfl) => `(tactic| ((repeat (first | symm | ((with_reducible show rdMod (.int _) (.int _) _ _); refine mod_any (by first | decide | assumption | omega) ?_; intro _ _ _))); try dsimp only))
/-- arcs that tell which keys -/
def ArcsT (size : Int) (T : Int → Bool) (ps : List (Int × Int)) : Prop := (ps = [(0, size)] ∨ ArcsOk size ps) ∧ ps.length ≤ 200 ∧ ∀ p, 0 ≤ p → p < size → ((∃ a ∈ ps, (p - a.1) % size < a.2) ↔ T p = true)
/-- an arc that no longer one holds -/
structure MaxRun (size : Int) (T : Int → Bool) (a : Int × Int) : Prop where
  lo : 0 ≤ a.1 ∧ a.1 < size
  many : 1 ≤ a.2 ∧ a.2 < size
  ahead : T ((a.1 - 1) % size) = false
  behind : T ((a.1 + a.2) % size) = false
  each : ∀ j, 0 ≤ j → j < a.2 → T ((a.1 + j) % size) = true
def ArcsV (size : Int) (T : Int → Bool) (ps : List (Int × Int)) : Prop := ArcsT size T ps ∧ (ps = [(0, size)] ∨ ∀ a ∈ ps, MaxRun size T a)
theorem run_uniq {size : Int} {T : Int → Bool} {a b : Int × Int} (s1 : 1 ≤ size) (A : MaxRun size T a) (B : MaxRun size T b) (h : (a.1 - b.1) % size < b.2) : a = b := by
  have d0 := Int.emod_nonneg (a.1 - b.1) (show size ≠ 0 by omega)
  have e1 := Int.emod_add_mul_ediv (a.1 - b.1) size
  have he : (a.1 - b.1) % size = 0 := by
    by_cases z : (a.1 - b.1) % size = 0
    · exact z
    · exfalso
      have h1 := B.each ((a.1 - b.1) % size - 1) (by omega) (by omega)
      have e2 : b.1 + ((a.1 - b.1) % size - 1) = (a.1 - 1) + size * (-((a.1 - b.1) / size)) := by rw [Int.mul_neg]; omega
      rw [e2, Int.add_mul_emod_self_left, A.ahead] at h1
      cases h1
  have e3 : a.1 = b.1 := by
    have A1 := A.lo
    have B1 := B.lo
    refine mod_same (size := size) ?_ (by omega) (by omega)
    have := Int.emod_emod_of_dvd (a.1 - b.1) (Int.dvd_refl size)
    have h3 : a.1 = b.1 + (a.1 - b.1) := by omega
    rw [h3, Int.add_emod, he, Int.add_zero, Int.emod_emod_of_dvd _ (Int.dvd_refl _)]
  have e4 : a.2 = b.2 := by
    have A2 := A.many
    have B2 := B.many
    rcases Int.lt_trichotomy a.2 b.2 with w | w | w
    · exfalso
      have h1 := B.each a.2 (by omega) w
      rw [← e3, A.behind] at h1
      cases h1
    · exact w
    · exfalso
      have h1 := A.each b.2 (by omega) w
      rw [e3, B.behind] at h1
      cases h1
  exact Prod.ext e3 e4
/-- just the arcs of these keys -/
def ArcsW (size : Int) (T : Int → Bool) (ps : List (Int × Int)) : Prop := ((∀ p, 0 ≤ p → p < size → T p = true) ∧ ps = [(0, size)]) ∨ (¬ (∀ p, 0 ≤ p → p < size → T p = true) ∧ ps.Pairwise (fun a b => a.1 < b.1) ∧ ∀ a, a ∈ ps ↔ MaxRun size T a)
theorem ArcsV.w {size : Int} {T : Int → Bool} {ps : List (Int × Int)} (s1 : 1 ≤ size) (h : ArcsV size T ps) : ArcsW size T ps := by
  obtain ⟨⟨h1, _, h3⟩, h4⟩ := h
  by_cases al : ∀ p, 0 ≤ p → p < size → T p = true
  · left
    refine ⟨al, ?_⟩
    rcases h4 with e | hm
    · exact e
    · exfalso
      obtain ⟨a, ha, _⟩ := (h3 0 (by omega) (by omega)).mpr (al 0 (by omega) (by omega))
      have := (hm a ha).ahead
      rw [al _ (Int.emod_nonneg _ (by omega)) (Int.emod_lt_of_pos _ (by omega))] at this
      cases this
  · right
    have nf : ps ≠ [(0, size)] := fun e => al fun p p0 p1 => (h3 p p0 p1).mp ⟨(0, size), by rw [e]; simp, Int.emod_lt_of_pos _ (by omega)⟩
    have hm := h4.resolve_left nf
    refine ⟨al, (h1.resolve_left nf).asc, fun a => ⟨hm a, fun A => ?_⟩⟩
    have h5 := A.each 0 (by omega) (by have := A.many; omega)
    rw [Int.add_zero, Int.emod_eq_of_lt A.lo.1 A.lo.2] at h5
    obtain ⟨b, hb, hlt⟩ := (h3 a.1 A.lo.1 A.lo.2).mpr h5
    rw [run_uniq s1 A (hm b hb) hlt]
    exact hb
theorem ArcsW.uniq {size : Int} {T : Int → Bool} {ps ps' : List (Int × Int)} (h : ArcsW size T ps) (h' : ArcsW size T ps') : ps' = ps := by
  rcases h with ⟨a, rfl⟩ | ⟨a, b, c⟩ <;> rcases h' with ⟨a', rfl⟩ | ⟨a', b', c'⟩
  · rfl
  · exact absurd a a'
  · exact absurd a' a
  · have nd : ∀ {l : List (Int × Int)}, l.Pairwise (fun a b => a.1 < b.1) → l.Nodup := fun h => h.imp fun {a b} h e => by rw [e] at h; exact absurd h (Int.lt_irrefl _)
    refine perm_pw_eq (R := fun a b : Int × Int => a.1 < b.1) (fun a b h h' => absurd h (by omega)) ((List.perm_ext_iff_of_nodup (nd b') (nd b)).mpr fun x => (c' x).trans (c x).symm) b' b
theorem ArcsW.len {size : Int} {T : Int → Bool} {ps : List (Int × Int)} (h : ArcsW size T ps) (s1 : 1 ≤ size) : (ps.length : Int) ≤ size ∧ ∀ a ∈ ps, 0 ≤ a.1 ∧ a.1 < size ∧ 1 ≤ a.2 ∧ a.2 ≤ size := by
  rcases h with ⟨_, rfl⟩ | ⟨_, b, c⟩
  · refine ⟨by simp; omega, fun a ha => ?_⟩
    rw [List.mem_singleton.mp ha]
    exact ⟨Int.le_refl _, by dsimp only; omega, by dsimp only; omega, Int.le_refl _⟩
  · have hb : ∀ a ∈ ps, 0 ≤ a.1 ∧ a.1 < size ∧ 1 ≤ a.2 ∧ a.2 ≤ size := fun a ha => by
      have A := (c a).mp ha
      exact ⟨A.lo.1, A.lo.2, A.many.1, by have := A.many.2; omega⟩
    refine ⟨?_, hb⟩
    have hn : (ps.map fun a => a.1.toNat).Nodup := by
      unfold List.Nodup
      rw [List.pairwise_map]
      refine List.Pairwise.imp_of_mem (R := fun a b : Int × Int => a.1 < b.1) (fun {x y} hx hy h e => ?_) b
      have := hb x hx
      have := hb y hy
      omega
    have := nodup_len (ys := List.range size.toNat) hn fun x hx => by
      obtain ⟨a, ha, rfl⟩ := List.mem_map.mp hx
      have := hb a ha
      exact List.mem_range.mpr (by omega)
    rw [List.length_map, List.length_range] at this
    omega
theorem Sh.bool (b : Bool) : Sh 20 0 (.bool b) := by
  cases b
  · exact ⟨by decide +kernel, by decide +kernel, by decide +kernel, by decide +kernel⟩
  · exact ⟨by decide +kernel, by decide +kernel, by decide +kernel, by decide +kernel⟩
end R
set_option maxRecDepth 100000
set_option maxHeartbeats 4000000
namespace DL
open PySem PySem.Spec PyProof.Rows L2
section
open SrtO Srt
variable {prog : Program} {w : World} {A : Around} {E : Value → Shared → Prop} {s : Shared}
def lexP (p q : Int × PySem.Str) : Bool := if p.1 = q.1 then decide (p.2.cps.toList < q.2.cps.toList) else decide (p.1 < q.1)
theorem lexP_iff {p q : Int × PySem.Str} : lexP p q = true ↔ p.1 < q.1 ∨ (p.1 = q.1 ∧ p.2.cps.toList < q.2.cps.toList) := by
  unfold lexP
  by_cases e : p.1 = q.1
  · rw [if_pos e, decide_eq_true_eq]
    constructor
    · exact fun h => .inr ⟨e, h⟩
    · rintro (h | h)
      · omega
      · exact h.2
  · rw [if_neg e, decide_eq_true_eq]
    constructor
    · exact .inl
    · rintro (h | h)
      · exact h
      · exact absurd h.1 e
theorem lexP_no {p q : Int × PySem.Str} : lexP p q = false ↔ ¬ (p.1 < q.1 ∨ (p.1 = q.1 ∧ p.2.cps.toList < q.2.cps.toList)) := by
  rw [← lexP_iff]
  cases lexP p q <;> simp
theorem swo_lexP (k : Value → Int × PySem.Str) : Swo fun v u => lexP (k v) (k u) := by
  refine ⟨fun x y h => ?_, fun x y z h1 h2 => ?_⟩
  · have a := lexP_iff.mp h
    refine lexP_no.mpr ?_
    rintro (b | b)
    · rcases a with a | a <;> omega
    · rcases a with a | a
      · omega
      · exact absurd b.2 (List.lt_asymm a.2)
  · have a := lexP_no.mp h1
    have b := lexP_no.mp h2
    refine lexP_no.mpr ?_
    have a1 : ¬ (k y).1 < (k x).1 := fun z => a (.inl z)
    have b1 : ¬ (k z).1 < (k y).1 := fun z => b (.inl z)
    rintro (c | c)
    · omega
    · have e1 : (k y).1 = (k x).1 := by omega
      have e2 : (k z).1 = (k y).1 := by omega
      have a2 : (k x).2.cps.toList ≤ (k y).2.cps.toList := List.not_lt.mp fun z => a (.inr ⟨e1, z⟩)
      have b2 : (k y).2.cps.toList ≤ (k z).2.cps.toList := List.not_lt.mp fun z => b (.inr ⟨e2, z⟩)
      exact absurd c.2 (List.not_lt.mpr (List.le_trans a2 b2))
theorem pairP_cmp {vs : List Value} {k : Value → Int × PySem.Str} (hp : ∀ v ∈ vs, IsPairS s.heap v (k v).1 (k v).2) : Cmp prog w A s (tuples' true) (fun p => p.1 ∈ vs) (lt2 fun v u => lexP (k v) (k u)) := by
  intro p q hm hm'
  have h1 := hp _ hm
  have h2 := hp _ hm'
  show wpAny (model prog w) A (keyLt' (tuples' true) p.1 q.1) (fun r s' => s' = s ∧ r = lexP (k p.1) (k q.1)) (fun _ _ => False) s
  unfold lexP
  generalize (k p.1).1 = x at h1 ⊢
  generalize (k p.1).2 = y at h1 ⊢
  generalize (k q.1).1 = x' at h2 ⊢
  generalize (k q.1).2 = y' at h2 ⊢
  obtain ⟨a, o, t, u, n, e, ho, hc, hd⟩ := h1
  obtain ⟨a', o', t', u', n', e', ho', hc', hd'⟩ := h2
  rw [e, e']
  refine PySem.W.kat_lt ho hd ho' hd' ?_
  show PySem.W.KatLex prog w A true (decide (2 < 2)) _ [(.int x t, .int x' t'), (.str y u, .str y' u')] 0 s
  refine PySem.W.kat_cons (SeqAt.EqAt.int_int x t x' t' prog w _ _ ?_)
  refine PySem.W.kat_go (fun e1 => ?_) (fun e1 => ?_)
  · have ex : x = x' := by simpa using e1
    refine PySem.W.kat_yes (PySem.W.kat_cons (SeqAt.EqAt.str_str y u y' u' prog w _ _ ?_))
    refine PySem.W.kat_go (fun e2 => ?_) (fun e2 => ?_)
    · have ey : y = y' := by simpa using e2
      have e3 : (if x = x' then decide (y.cps.toList < y'.cps.toList) else decide (x < x')) = false := by
        rw [if_pos ex, ey]
        exact decide_eq_false (List.lt_irrefl _)
      exact PySem.W.kat_yes (PySem.W.kat_nil ⟨rfl, e3.symm⟩)
    · have e3 : (if x = x' then decide (y.cps.toList < y'.cps.toList) else decide (x < x')) = decide (y.cps.toList < y'.cps.toList) := if_pos ex
      refine PySem.W.kat_no (PySem.W.kat_one _ _ (PyProof.Rows.lt_str ?_))
      exact (show s = s ∧ decide (y.cps.toList < y'.cps.toList) = (if x = x' then decide (y.cps.toList < y'.cps.toList) else decide (x < x')) from ⟨rfl, e3.symm⟩)
  · have ex : ¬ x = x' := by simpa using e1
    have e3 : (if x = x' then decide (y.cps.toList < y'.cps.toList) else decide (x < x')) = decide (x < x') := if_neg ex
    exact PySem.W.kat_no (oneLt_int ⟨rfl, e3.symm⟩)
theorem pairP_sortable {a : Addr} {vs : List Value} {k : Value → Int × PySem.Str} (h0 : 0 < vs.length) (hp : ∀ v ∈ vs, IsPairS s.heap v (k v).1 (k v).2) (ha : ∀ o, s.heap.get? a = some o → o.cls ≠ .type "tuple") : SortableO prog w A s a vs fun v u => lexP (k v) (k u) := by
  intro h' keep
  have hp' : ∀ v ∈ vs, IsPairS h' v (k v).1 (k v).2 := fun v hm => (hp v hm).keeps fun b o e c => keep b o (fun z => by subst z; exact ha o e c) e
  obtain ⟨fs, h1, h2, h3⟩ := firstsS fun v hm => ⟨_, _, hp' v hm⟩
  refine ⟨tuples' true, fun Q E hq => ?_, pairP_cmp hp'⟩
  refine PySem.W.kat_kind (T := .type "int") h1 (by omega) (fun f hm => ?_) (by rfl) ?_
  · obtain ⟨x, t, rfl⟩ := h3 f hm
    exact PySem.W.Looks.now
  · have e : (Value.type "int" != Value.type "tuple") = true := by first | decide +kernel | rfl | decide
    rw [e]
    exact hq
theorem sorted_pairP {l : Addr} {vs : List Value} {k : Value → Int × PySem.Str} {Q : Value → Shared → Prop} (hl : s.heap.IsList l vs.toArray) (hz : vs.length ≤ sizeLine) (hp : ∀ v ∈ vs, IsPairS s.heap v (k v).1 (k v).2)
    (h : ∀ (h' : Heap) (d : Addr) (out : List Value), Srtd (fun v u => lexP (k v) (k u)) out → Stb (fun v u => lexP (k v) (k u)) out vs → (∀ b o, s.heap.get? b = some o → h'.get? b = some o) → s.heap.objs.size ≤ d → (∃ n, h'.get? d = some (seqObj "list" out.toArray n)) → Q (.ref d) { s with heap := h' }) :
    wpAny (model prog w) A (call (.builtin "sorted") [.ref l]) Q E s := by
  refine sorted_ord (swo_lexP k) hl hz (fun h2 h₁ a ha kk => ?_) fun out hs hb => ?_
  · refine pairP_sortable (s := { s with heap := h₁ }) (by omega) (fun v hm => (hp v hm).keeps fun b o e _ => (kk b o e).2) fun o e => ?_
    have e' : some o = some (seqObj "list" vs.toArray 0) := e.symm.trans ha
    cases e'
    intro c
    exact absurd (Value.type.inj c) (by decide)
  · exact h _ _ out hs hb (fun b o e => sortedAll_old e) (Nat.le_succ _) (sortedAll_at s.heap vs out.toArray)
end
def rSortPT (K : PySem.W.Frag) : List V → Hp → VK → Prop := fun vs H Q => ∃ (a : Addr) (xs : List V), vs = [V.ref a] ∧ SqL K H a xs ∧ (∀ x ∈ xs, ∃ p, pairAt K H x p) ∧
  ∀ (ys : List V) (p : Addr), ys.Pairwise (fun x y => ∀ p q : Int × PySem.Str, pairAt K H x p → pairAt K H y q → lexP q p = false) → ys.Perm xs → H p = none → Q (.ref p) (upd H p (.lst ys))
section
variable {X : Cx} {W : WX}
open Classical in
theorem cr_sortPT : CallR X (.builtin "sorted") (rSortPT X.K) := by
  intro pins s σ H vs us Q I r h
  obtain ⟨a, xs, rfl, hs, hx, q⟩ := h
  let g : V → Int × PySem.Str := fun v => if e : ∃ p, pairAt X.K H v p then e.choose else (0, default)
  have gok : ∀ v p, pairAt X.K H v p → g v = p := fun v p hp => by
    have e : ∃ p, pairAt X.K H v p := ⟨p, hp⟩
    have e1 : g v = e.choose := dif_pos e
    obtain ⟨t, rfl, q1⟩ := hp
    obtain ⟨t', e2, q2⟩ := e.choose_spec
    cases e2
    have z := I.tuple_inj q1 q2
    rw [e1]
    simp only [List.cons.injEq, V.int.injEq, V.str.injEq, and_true] at z
    exact Prod.ext z.1.symm z.2.symm
  obtain ⟨its, rv, hl, hz⟩ := I.list hs
  obtain ⟨u, rfl, ru⟩ := vals1 r
  obtain rfl : u = Value.ref a := ru
  obtain ⟨e1, e2⟩ := refs_back rv fun x m => by
    obtain ⟨p, t, e, _⟩ := hx x m
    exact ⟨t, e⟩
  have mem : ∀ v ∈ its, backV v ∈ xs := fun v hv => by rw [e1]; exact List.mem_map.mpr ⟨v, hv, rfl⟩
  have gat : ∀ v ∈ xs, pairAt X.K H v (g v) := fun v hv => by
    obtain ⟨p, hp⟩ := hx v hv
    rw [gok v p hp]; exact hp
  refine sorted_pairP (k := fun u => g (backV u)) hl.isList (by rw [← rv.length]; exact hz) (fun v hv => ?_) fun h' d out h1 h2 kp hd hn => ?_
  · obtain ⟨t, rfl⟩ := e2 v hv
    obtain ⟨t', et, ht⟩ := gat _ (mem _ hv)
    cases et
    obtain ⟨its2, rv2, ⟨o, ho, hc, n, hdt⟩, _⟩ := I.tuple ht
    obtain ⟨u1, u2, rfl, r1, r2⟩ := vals2 rv2
    obtain ⟨t1, rfl⟩ := r1
    obtain ⟨t2, rfl⟩ := r2
    exact ⟨t, o, t1, t2, n, rfl, ho, hc, hdt⟩
  · have h3 : ∀ u ∈ out, ∃ a, u = Value.ref a := fun u hu => e2 u (h2.perm.mem_iff.mp hu)
    obtain ⟨n, hn⟩ := hn
    have hb : (out.map backV).Perm xs := by rw [e1]; exact h2.perm.map backV
    refine ⟨.ref d, upd H d (.lst (out.map backV)), I.laid (t' := s.toks) kp hd ⟨?_, out, n, vals_back h3, hn⟩, rfl, q _ d ?_ hb (I.hok.fresh hd)⟩
    · rw [hb.length_eq]
      exact hz
    · rw [List.pairwise_map]
      exact h1.imp fun h p q hp hq => by
        rw [← gok _ p hp, ← gok _ q hq]
        exact h
/-- one before the other, as tuples are compared -/
def ptLe (a b : Int × PySem.Str) : Prop := a.1 < b.1 ∨ (a.1 = b.1 ∧ ¬ b.2.cps.toList < a.2.cps.toList)
theorem pt_le {p q : Int × PySem.Str} (h : lexP q p = false) : ptLe p q := by
  have n := lexP_no.mp h
  unfold ptLe
  by_cases e : p.1 < q.1
  · exact .inl e
  · have : ¬ q.1 < p.1 := fun z => n (.inl z)
    have e2 : p.1 = q.1 := by omega
    exact .inr ⟨e2, fun z => n (.inr ⟨e2.symm, z⟩)⟩
def rdSortPT : RDL := fun ds M q => ∃ (d : D) (ps : List (Int × PySem.Str)), ds = [d] ∧ lsqOf M d = some (ps.map pairD) ∧ ∀ ps' : List (Int × PySem.Str), ps'.Perm ps → ps'.Pairwise ptLe → q (.lst (ps'.map pairD)) M
theorem cd_sortPT : CallD X (.builtin "sorted") rdSortPT := ⟨_, cr_sortPT, fun H0 H M xs ds q Q S r w k => by
  obtain ⟨d, ps, rfl, e, w⟩ := w
  obtain ⟨v, rfl, rv⟩ := dnl1 r
  obtain ⟨a, vs, rfl, hs, rs⟩ := S.lsq rv e
  have ex : ∀ x ∈ vs, ∃ p, Dn X.K H0 x (pairD p) := fun x hx => by
    obtain ⟨n, hn⟩ := List.getElem?_of_mem hx
    obtain ⟨dd, h1, h2⟩ := rs.getV hn
    rw [List.getElem?_map] at h1
    obtain ⟨p, hp, rfl⟩ := omap h1
    exact ⟨p, h2⟩
  refine ⟨a, vs, rfl, hs, fun x hx => ?_, fun us b hs2 hp hb => ?_⟩
  · obtain ⟨p, z⟩ := ex x hx
    exact ⟨p, dn_pair (z.mono S.ex)⟩
  · obtain ⟨es, pe, re⟩ := rs.perm hp
    obtain ⟨ps', pp, rfl⟩ := map_pairs pe
    refine k.newL S re (w ps' pp (dn_pw (fun x y p q h1 h2 z => pt_le (z p q (dn_pair (h1.mono S.ex)) (dn_pair (h2.mono S.ex)))) re hs2)) b hb⟩
theorem countIn_strs (k : PySem.Str) : ∀ ys : List PySem.Str, countIn (.str k) (ys.map PyData.str) = ((ys.count k : Nat) : Int)
  | [] => rfl
  | y :: ys => by
    have ih := countIn_strs k ys
    rw [List.map_cons, countIn, ih, List.count_cons]
    simp only [same]
    rcases Bool.eq_false_or_eq_true (y == k) with hb | hb <;> simp only [hb, Bool.false_eq_true, if_true, if_false] <;> push_cast <;> omega
def rCntS (K : PySem.W.Frag) : V → List V → Hp → VK → Prop := fun x xs H Q => ∃ (p : Addr) (ns : List PySem.Str) (k : PySem.Str), x = .ref p ∧ xs = [.str k] ∧ SqL K H p (ns.map V.str) ∧ Q (.int (ns.count k : Nat)) H
theorem mt_lcountS : MtR X "list.count" (rCntS X.K) := by
  intro pins s σ H x xs v us Q I rx rxs h
  obtain ⟨p, ns, k, rfl, rfl, hs, q⟩ := h
  cases rx
  obtain ⟨u, rfl, ru⟩ := rxs.one
  obtain ⟨t, rfl⟩ := ru
  obtain ⟨its, rv, hl, hlen⟩ := I.list hs
  have hi := strs_of_vals rv
  refine count_list_strs (ys := ns) hl.isList hi ?_
  refine ⟨.int (ns.count k : Nat), H, I.tok _, ⟨s.toks, ?_⟩, q⟩
  rw [countIn_strs]
@[reducible] def dCount (do_ : DE) (da : DA) : DE := fun env M q E => do_ env M (fun o M1 => (∃ xs, lsqOf M1 o = some xs) ∧ da env M1 (fun ds M2 => ∃ (ys : List PySem.Str) (y : PySem.Str), ds = [.str y] ∧ lsqOf M2 o = some (ys.map D.str) ∧ q (.int (ys.count y : Nat)) M2) E) E
theorem pd_count {o e : Expr} {do_ : DE} {da : DA} {apos cpos : Pos} (ho : PD X W o do_) (ha : AD X W [e] da) (hbase : attributeBase o "count" X.env (eval o X.env) = eval o X.env := by rfl)
    (hfew : ((backTo cpos (starEach (e :: []) X.env)).all (fun x => !x.1) && (backToKw cpos (keywordEach [] X.env)).all (fun x => x.1.isSome) && decide ((e :: []).length + ([] : List Keyword).length + (if ([] : List Keyword).isEmpty then 0 else 1) < 30)) = true := by rfl)
    (hline : (apos.endLine == cpos.line) = true := by rfl) (hs : starEach [e] X.env = (false, eval e X.env) :: starEach [] X.env := by rfl) (hpl : (backTo cpos (starEach [] X.env)).any (·.1) = false := by rfl) : PD X W (.Call (.Attribute o "count" apos) [e] [] cpos) (dCount do_ da) :=
  peImp (pe_bm PySem.F.plainAttrs_list PySem.F.slot_list_count PySem.F.type_list_count mt_lcountS ho ha hbase hfew hline hs hpl) fun σ H Q ⟨env, M, q, E, H0, so, S, h, k, kx⟩ =>
    goE so S h kx fun x dx H1 H' M1 e1 so1 S1 rx ⟨⟨zs, ez⟩, h1⟩ kx1 => by
      obtain ⟨a, vs, rfl, hv, _⟩ := S1.lsq rx ez
      refine ⟨.inl ⟨rfl, vs, hv⟩, goA so1 S1 h1 kx1 fun xs ds H2 H'' M2 e2 so2 S2 rs ⟨ys, y, ed, em2, w⟩ kx2 => ?_⟩
      subst ed
      obtain ⟨v, rfl, rv⟩ := dnl1 rs
      obtain ⟨a2, us, ea, hu, r⟩ := S2.lsq (rx.mono e2) em2
      cases ea
      have hvs : us = ys.map V.str := strs_dn r (strs_map ys)
      subst hvs
      obtain rfl := rv.inv_str
      exact ⟨a, ys, y, rfl, rfl, hu, k _ _ H2 _ _ (e1.trans e2) S2 (.int _) w⟩
theorem iti_ok {K : PySem.W.Frag} {H0 : Hp} {c : Addr} {o : Obj} {rs : List (Key × V)} {ds : List (Key × D)} : ItOk K H0 (Iti c o rs) (ds.map fun kv => D.tup [kD kv.1, kv.2]) (fun M => M c = some (.fd o rs ds)) where
  go := fun H0' H M i y e S ok hi => by
    obtain ⟨n0, a, b⟩ := S.any c _ ok
    rw [List.getElem?_map] at hi
    obtain ⟨kv, hk, rfl⟩ := omap hi
    have hlt := (List.getElem?_eq_some_iff.mp hk).1
    have hl := b.length
    have key : ∀ {r : List (Key × V)} {s : List (Key × D)}, KvL K H0' r s → ∀ (j : Nat) (k : Key) (v : V) (kv : Key × D), r[j]? = some (k, v) → s[j]? = some kv → k = kv.1 ∧ Dn K H0' v kv.2 := by
      intro r s hb
      induction hb with
      | nil => intro j k v kv h; simp at h
      | cons hd _ ih =>
        intro j k v kv h1 h2
        cases j with
        | zero =>
          simp at h1 h2
          rw [← h2, ← h1.1, ← h1.2]
          exact ⟨rfl, hd⟩
        | succ j => exact ih j k v kv (by simpa using h1) (by simpa using h2)
    refine ⟨⟨a, by omega⟩, fun x H' ⟨T, k, v, e2, e3, hT, e4⟩ => ?_⟩
    subst e3 e4
    obtain ⟨z1, z2⟩ := key b i k v kv e2 hk
    have z0 := (S.fresh hT).1
    subst z1
    exact ⟨_, Ext.add z0, S.new hT, .tup (SqT.of upd_same) (.cons (kD_dn _) (.cons (z2.mono (Ext.add z0)) .nil))⟩
  stop := fun H0' H M i e S ok hi => by
    obtain ⟨n0, a, b⟩ := S.any c _ ok
    rw [List.length_map] at hi
    exact ⟨a, by rw [b.length]; exact hi⟩
@[reducible] def dIterI (de : DE) : DI := fun env M q E => de env M (fun d M1 => ∃ c o rs ds, d = .cel c ∧ M1 c = some (.fd o rs ds) ∧ q (ds.map fun kv => D.tup [kD kv.1, kv.2]) (fun M' => M' c = some (.fd o rs ds)) M1) E
theorem id_items {e : Expr} {de : DE} {elts : List Expr} {kk : Nat} {tpos apos cpos : Pos} (h : PD X W e de) (hbase : attributeBase e "items" X.env (eval e X.env) = eval e X.env := by rfl) (hline : (apos.endLine == cpos.line) = true := by rfl) : ID X W (.Tuple elts kk tpos) (.Call (.Attribute e "items" apos) [] [] cpos) (dIterI de) := piImp (pi_items h hbase hline) fun σ H R ⟨env, M, q, E, H0, so, S, h, k, kx⟩ =>
  goE so S h kx fun x dx H1 H' M1 e1 so1 S1 rx ⟨c, o, rs, ds, ed, hm, w⟩ kx1 => by
    subst ed
    cases rx
    obtain ⟨n0, a, b⟩ := S1.any c _ hm
    exact ⟨c, o, rs, rfl, a, k _ _ _ H1 H' M1 e1 S1 iti_ok w⟩
end
end DL
set_option maxRecDepth 100000
set_option maxHeartbeats 1000000
namespace R
open PySem PySem.Spec PyProof.Rows L2 DL
local macro_rules | `(tactic| bv_omega) => `(tactic| first | assumption | exact mset_same)
local macro_rules | `(tactic| symm) => `(tactic| first
  | ((with_reducible show ∃ _, _ = _ ∧ _); refine ⟨_, rfl, ?_⟩)
  | ((with_reducible show _ = _ ∧ _); refine ⟨rfl, ?_⟩)
  | ((with_reducible show ∃ _ _, _ = _ ∧ _ = _ ∧ _); refine ⟨_, _, rfl, rfl, ?_⟩)
  | ((with_reducible show ∃ _ _, _ = _ ∧ _); refine ⟨_, _, rfl, ?_⟩)
  | ((with_reducible show ∃ _ _ _, _ = _ ∧ _); refine ⟨_, _, _, rfl, ?_⟩)
  | ((with_reducible show (_ ≤ _ ∧ _) ∧ _); refine ⟨by omega, ?_⟩)
  | with_reducible refine add_int ?_ | with_reducible refine sub_int ?_
  | with_reducible refine lt_int ?_ | with_reducible refine le_int ?_ | with_reducible refine gt_int ?_ | with_reducible refine ge_int ?_
  | with_reducible refine int_int ?_
  | with_reducible refine eq_int ?_ | with_reducible refine ne_int ?_
  | with_reducible refine len_tup ?_ | with_reducible refine len_lst ?_
  | ((with_reducible show rdIx (.cel _) (.int _) _ _); refine ix_cel (by bv_omega) (by rfl) ?_)
  | ((with_reducible show rdIx (.lst _) (.int _) _ _); refine ix_lst (by rfl) ?_)
  | ((with_reducible show rdIx (.tup _) (.int _) _ _); refine ix_tup (by rfl) ?_)
  | ((with_reducible show rdLen [.cel _] _ _); refine len_cel (by bv_omega) ?_)
  | ((with_reducible show rdMul (.int _) (.int _) _ _); first | refine mul_l (by decide) (by decide) ?_ | refine mul_r (by decide) (by decide) ?_ | refine mul_l (by omega) (by omega) ?_ | refine mul_r (by omega) (by omega) ?_)
  | ((with_reducible show rdDiv (.int _) (.int _) _ _); refine div_int (by first | decide | assumption | omega) (by first | decide | assumption | omega) ?_)
  | ((with_reducible show rdDivmod [.int _, .int _] _ _); refine dm_int (by first | decide | assumption | omega) (by first | decide | assumption | omega) ?_)
  | ((with_reducible show @ite _ (_ = true) _ _ _); first | refine ifYes (by first | with_reducible rfl | exact Bool.not_false | assumption) ?_ | refine ifNo (by first | with_reducible rfl | exact Bool.not_true | assumption) ?_)
  | ((with_reducible show ∃ _, _ ∧ _); refine ⟨_, celL_of (by bv_omega), ?_⟩)
  | ((with_reducible show ∃ _ _ _ _, _ ∧ _ ∧ _ ∧ _ ∧ _); refine ⟨_, _, _, _, rfl, rfl, by bv_omega, by rfl, ?_⟩)
  | ((with_reducible show (_ : Nat) ≤ sizeLine ∧ _); refine ⟨by rw [sizeLine_eq]; exact Nat.le_of_ble_eq_true rfl, ?_⟩))
local macro_rules | `(tactic| infer_instance) => `(tactic| ((repeat symm); try dsimp only))
local macro_rules | `(tactic| ac_rfl) => `(tactic| ((repeat (first | symm | ((with_reducible show rdMod (.int _) (.int _) _ _); refine mod_any (by first | decide | assumption | omega) ?_; intro _ _ _))); try dsimp only))
def homeOf (hs : List Host) (kind x : Str) : Str := if kind = "hosts" then x else rackOf hs x
/-- the homes of a key's keepers -/
noncomputable def homesF (size : Int) (r : Rule) (hs : List Host) (kind : Str) (p : Int) : List Str := (keepF size r hs p).map (homeOf hs kind)
def upN (homes ys : List Str) : Nat := (homes.filter fun x => !decide (x ∈ ys)).length
/-- these names, the most frequent first -/
structure Rank (homes : List Str) (ps : List (Int × Str)) : Prop where
  nd : (ps.map (·.2)).Nodup
  mem : ∀ h, h ∈ ps.map (·.2) ↔ h ∈ homes
  cnt : ∀ a ∈ ps, a.1 = -(homes.count a.2 : Int)
  asc : ps.Pairwise ptLe
/-- what falls for the most -/
def Worst (homes : List Str) (down : Nat) (ys : List Str) : Prop := ∃ ps, Rank homes ps ∧ ys.Perm ((ps.take down).map (·.2)) ∧ PyProof.Rows.sortedS ys = true
theorem Rank.uniq {homes : List Str} {ps qs : List (Int × Str)} (a : Rank homes ps) (b : Rank homes qs) : ps = qs := by
  refine perm_pw_eq (R := ptLe) (fun x y h h' => ?_) ?_ a.asc b.asc
  · rcases h with h | ⟨h1, h2⟩
    · rcases h' with h' | ⟨h', _⟩ <;> omega
    · rcases h' with h' | ⟨_, h3⟩
      · omega
      · exact Prod.ext h1 (str_ext (List.le_antisymm (List.not_lt.mp h2) (List.not_lt.mp h3)))
  · have nd : ∀ {l : List (Int × Str)}, (l.map (·.2)).Nodup → l.Nodup := fun h => by
      unfold List.Nodup at h
      rw [List.pairwise_map] at h
      exact h.imp fun h e => h (by rw [e])
    have hm : ∀ {l l' : List (Int × Str)}, Rank homes l → Rank homes l' → ∀ x ∈ l, x ∈ l' := fun {l l'} h h' x hx => by
      have h1 : x.2 ∈ homes := (h.mem x.2).mp (List.mem_map.mpr ⟨x, hx, rfl⟩)
      obtain ⟨y, hy, e⟩ := List.mem_map.mp ((h'.mem x.2).mpr h1)
      have h2 := h.cnt x hx
      have h3 := h'.cnt y hy
      have : y = x := Prod.ext (by rw [h2, h3, e]) e
      rw [← this]; exact hy
    exact (List.perm_ext_iff_of_nodup (nd a.nd) (nd b.nd)).mpr fun x => ⟨hm a b x, hm b a x⟩
theorem Worst.uniq {homes : List Str} {down : Nat} {ys zs : List Str} (a : Worst homes down ys) (b : Worst homes down zs) : ys = zs := by
  obtain ⟨ps, h1, h2, h3⟩ := a
  obtain ⟨qs, g1, g2, g3⟩ := b
  have e := h1.uniq g1
  subst e
  exact sortedS_uniq (h2.trans g2.symm) h3 g3
open Classical in
noncomputable def worstF (homes : List Str) (down : Nat) : List Str := if h : ∃ ys, Worst homes down ys then h.choose else []
theorem worst_eq {homes : List Str} {down : Nat} {ys : List Str} (h : Worst homes down ys) : ys = worstF homes down := by
  have e : ∃ ys, Worst homes down ys := ⟨ys, h⟩
  unfold worstF
  rw [dif_pos e]
  exact h.uniq e.choose_spec
theorem pw_rising : ∀ {p : Str} {l : List Str}, (p :: l).Pairwise (fun a b => ¬ b.cps.toList < a.cps.toList) → PyProof.Rows.risingS p l = true
  | p, [], _ => rfl
  | p, x :: r, h => by
    obtain ⟨h1, h2⟩ := List.pairwise_cons.mp h
    show (!PySem.Spec.ltCps x.cps.toList p.cps.toList && PyProof.Rows.risingS x r) = true
    rw [Bool.and_eq_true, PyProof.Rows.ltCps_eq]
    exact ⟨by simpa using h1 x List.mem_cons_self, pw_rising h2⟩
theorem pw_sorted : ∀ {l : List Str}, l.Pairwise (fun a b => ¬ b.cps.toList < a.cps.toList) → PyProof.Rows.sortedS l = true
  | [], _ => rfl
  | _ :: _, h => pw_rising h
theorem sort_ex (l : List Str) : ∃ ys : List Str, ys.Perm l ∧ PyProof.Rows.sortedS ys = true := by
  refine ⟨l.mergeSort fun a b => decide (a.cps.toList ≤ b.cps.toList), List.mergeSort_perm _ _, pw_sorted ?_⟩
  have h := List.pairwise_mergeSort (le := fun a b : Str => decide (a.cps.toList ≤ b.cps.toList)) (fun a b c h1 h2 => decide_eq_true (List.le_trans (of_decide_eq_true h1) (of_decide_eq_true h2))) (fun a b => by
    rw [Bool.or_eq_true, decide_eq_true_iff, decide_eq_true_iff]
    exact List.le_total _ _) l
  exact h.imp fun z => List.not_lt.mpr (of_decide_eq_true z)
theorem worst_ex (homes : List Str) (down : Nat) : ∃ ys, Worst homes down ys := by
  haveI : ∀ a b : Int × Str, Decidable (ptLe a b) := fun a b => Classical.propDecidable _
  have tr : ∀ a b c : Int × Str, ptLe a b → ptLe b c → ptLe a c := fun a b c h1 h2 => by
    rcases h1 with h1 | ⟨h1, g1⟩ <;> rcases h2 with h2 | ⟨h2, g2⟩
    · exact .inl (by omega)
    · exact .inl (by omega)
    · exact .inl (by omega)
    · exact .inr ⟨by omega, List.not_lt.mpr (List.le_trans (List.not_lt.mp g1) (List.not_lt.mp g2))⟩
  have to : ∀ a b : Int × Str, ptLe a b ∨ ptLe b a := fun a b => by
    rcases Int.lt_trichotomy a.1 b.1 with h | h | h
    · exact .inl (.inl h)
    · rcases List.le_total a.2.cps.toList b.2.cps.toList with z | z
      · exact .inl (.inr ⟨h, List.not_lt.mpr z⟩)
      · exact .inr (.inr ⟨h.symm, List.not_lt.mpr z⟩)
    · exact .inr (.inl h)
  let l : List (Int × Str) := (SK.dedup homes).map fun h => (-(homes.count h : Int), h)
  have hp := List.mergeSort_perm l fun a b => decide (ptLe a b)
  have hs := List.pairwise_mergeSort (le := fun a b : Int × Str => decide (ptLe a b)) (fun a b c h1 h2 => decide_eq_true (tr a b c (of_decide_eq_true h1) (of_decide_eq_true h2))) (fun a b => by
    rw [Bool.or_eq_true, decide_eq_true_iff, decide_eq_true_iff]
    exact to a b) l
  have e2 : l.map (·.2) = SK.dedup homes := by
    show List.map _ (List.map _ _) = _
    rw [List.map_map]
    exact List.map_id' _
  obtain ⟨ys, h1, h2⟩ := sort_ex (((l.mergeSort fun a b => decide (ptLe a b)).take down).map (·.2))
  refine ⟨ys, _, ⟨?_, fun h => ?_, fun a ha => ?_, hs.imp fun z => of_decide_eq_true z⟩, h1, h2⟩
  · refine (hp.map (·.2)).nodup_iff.mpr ?_
    rw [e2]; exact SK.dedup_nd _
  · rw [(hp.map (·.2)).mem_iff, e2, SK.dedup_mem]
  · obtain ⟨h, _, rfl⟩ := List.mem_map.mp (hp.mem_iff.mp ha)
    rfl
theorem worst_is (homes : List Str) (down : Nat) : Worst homes down (worstF homes down) := by
  obtain ⟨ys, h⟩ := worst_ex homes down
  rw [← worst_eq h]; exact h
theorem top_sum {α : Type} {c : α → Int} (c0 : ∀ a, 0 ≤ c a) : ∀ {ps : List α}, ps.Pairwise (fun a b => c b ≤ c a) → ∀ {d : Nat} {s : List α}, s.Sublist ps → s.length ≤ d → (s.map c).sum ≤ ((ps.take d).map c).sum
  | [], _, d, s, hs, _ => by rw [List.sublist_nil.mp hs]; simp
  | x :: ps, hp, 0, s, hs, hl => by
    have : s = [] := List.length_eq_zero_iff.mp (by omega)
    rw [this]; simp
  | x :: ps, hp, d + 1, s, hs, hl => by
    obtain ⟨h1, h2⟩ := List.pairwise_cons.mp hp
    rw [List.take_succ_cons, List.map_cons, List.sum_cons]
    cases hs with
    | cons _ hs' =>
      cases s with
      | nil =>
        have := top_sum c0 h2 (d := d) (s := []) (List.nil_sublist _) (by simp)
        have := c0 x
        simp at *; omega
      | cons y s' =>
        have hy : y ∈ ps := hs'.subset List.mem_cons_self
        have ih := top_sum c0 h2 (d := d) (s := s') ((List.sublist_cons_self y s').trans hs') (by rw [List.length_cons] at hl; omega)
        have := h1 y hy
        rw [List.map_cons, List.sum_cons]; omega
    | @cons_cons s' _ _ hs' =>
      have ih := top_sum c0 h2 (d := d) (s := s') hs' (by rw [List.length_cons] at hl; omega)
      rw [List.map_cons, List.sum_cons]; omega
theorem sum_one {N : List Str} (nd : N.Nodup) {p : Str → Bool} {y : Str} (hy : y ∈ N) : ((N.filter p).map fun h => (if y = h then 1 else 0 : Int)).sum = if p y = true then 1 else 0 := by
  induction N with
  | nil => cases hy
  | cons n N ih =>
    obtain ⟨h1, h2⟩ := List.pairwise_cons.mp nd
    rw [List.filter_cons]
    have zero : ∀ l : List Str, y ∉ l → (l.map fun h => (if y = h then 1 else 0 : Int)).sum = 0 := fun l hl => by
      induction l with
      | nil => rfl
      | cons a l ih2 =>
        rw [List.map_cons, List.sum_cons, ih2 fun z => hl (List.mem_cons_of_mem _ z), if_neg fun e => hl (by rw [e]; exact List.mem_cons_self)]; rfl
    by_cases e : y = n
    · subst e
      have hz := zero (N.filter p) fun z => h1 y (List.mem_filter.mp z).1 rfl
      by_cases hp : p y = true
      · rw [if_pos hp, if_pos hp, List.map_cons, List.sum_cons, hz, if_pos rfl]; rfl
      · rw [if_neg hp, if_neg hp, hz]
    · have hy2 : y ∈ N := by
        rcases List.mem_cons.mp hy with z | z
        · exact absurd z e
        · exact z
      have := ih h2 hy2
      by_cases hp : p n = true
      · rw [if_pos hp, List.map_cons, List.sum_cons, if_neg e, this]; omega
      · rw [if_neg hp, this]
theorem count_sum {N : List Str} (nd : N.Nodup) {p : Str → Bool} : ∀ {homes : List Str}, (∀ h ∈ homes, h ∈ N) → ((homes.filter p).length : Int) = ((N.filter p).map fun h => (homes.count h : Int)).sum
  | [], _ => by
    have : ∀ l : List Str, (l.map fun h => ((([] : List Str).count h : Nat) : Int)).sum = 0 := fun l => by
      induction l with
      | nil => rfl
      | cons a l ih => rw [List.map_cons, List.sum_cons, ih]; rfl
    rw [this]; rfl
  | y :: homes, h => by
    have ih := count_sum nd (p := p) (homes := homes) fun z hz => h z (List.mem_cons_of_mem _ hz)
    have h1 := sum_one nd (p := p) (h y List.mem_cons_self)
    have h2 : ∀ l : List Str, (l.map fun h => ((y :: homes).count h : Int)).sum = (l.map fun h => (homes.count h : Int)).sum + (l.map fun h => (if y = h then 1 else 0 : Int)).sum := fun l => by
      induction l with
      | nil => rfl
      | cons a l ih2 =>
        rw [List.map_cons, List.sum_cons, List.map_cons, List.sum_cons, List.map_cons, List.sum_cons, ih2, List.count_cons]
        by_cases e : y = a
        · rw [if_pos e, if_pos (by simpa using e)]; push_cast; omega
        · rw [if_neg e, if_neg (by simpa using e)]; push_cast; omega
    rw [h2, h1, ← ih, List.filter_cons]
    by_cases hp : p y = true
    · rw [if_pos hp, if_pos hp, List.length_cons]; push_cast; rfl
    · rw [if_neg hp, if_neg hp]; omega
theorem sum_nn {α : Type} {c : α → Int} (c0 : ∀ a, 0 ≤ c a) : ∀ l : List α, 0 ≤ (l.map c).sum
  | [] => by simp
  | a :: l => by
    have := sum_nn c0 l
    have := c0 a
    rw [List.map_cons, List.sum_cons]; omega
theorem worst_few {homes : List Str} {down : Nat} {ys : List Str} (h : Worst homes down ys) : ys.length ≤ down ∧ ys.Nodup ∧ ∀ y ∈ ys, y ∈ homes := by
  obtain ⟨ps, R, hp, _⟩ := h
  refine ⟨by rw [hp.length_eq, List.length_map, List.length_take]; omega, hp.nodup_iff.mpr ?_, fun y hy => ?_⟩
  · rw [List.map_take]
    exact List.Pairwise.sublist (List.take_sublist _ _) R.nd
  · have := hp.mem_iff.mp hy
    rw [List.map_take] at this
    exact (R.mem y).mp (List.mem_of_mem_take this)
/-- no other names of so many leave fewer up -/
theorem worst_best {homes : List Str} {down : Nat} {ys : List Str} (h : Worst homes down ys) {L : List Str} (hL : L.length ≤ down) : upN homes ys ≤ upN homes L := by
  obtain ⟨ps, R, hp, _⟩ := h
  have hN : ∀ x ∈ homes, x ∈ ps.map (·.2) := fun x hx => (R.mem x).mpr hx
  have hpw : (ps.map (·.2)).Pairwise (fun a b => (homes.count b : Int) ≤ (homes.count a : Int)) := by
    rw [List.pairwise_map]
    refine List.Pairwise.imp_of_mem (R := ptLe) (fun {a b} ha hb hab => ?_) R.asc
    have h1 := R.cnt a ha
    have h2 := R.cnt b hb
    rcases hab with z | ⟨z, _⟩ <;> omega
  have g1 := count_sum R.nd (p := fun x => decide (x ∈ L)) hN
  have g2 := count_sum R.nd (p := fun x => decide (x ∈ ys)) hN
  have hs : ((ps.map (·.2)).filter fun x => decide (x ∈ L)).length ≤ down := by
    have := nodup_len (List.Pairwise.sublist List.filter_sublist R.nd : ((ps.map (·.2)).filter fun x => decide (x ∈ L)).Nodup) (ys := L) fun x hx => by simpa using (List.mem_filter.mp hx).2
    omega
  have t1 := top_sum (c := fun x => (homes.count x : Int)) (fun _ => Int.natCast_nonneg _) hpw (List.filter_sublist (l := ps.map (·.2)) (p := fun x => decide (x ∈ L))) hs
  have t2 : (((ps.map (·.2)).take down).map fun x => (homes.count x : Int)).sum ≤ (((ps.map (·.2)).filter fun x => decide (x ∈ ys)).map fun x => (homes.count x : Int)).sum := by
    have e : (ps.map (·.2)).filter (fun x => decide (x ∈ ys)) = (ps.map (·.2)).take down ++ ((ps.map (·.2)).drop down).filter fun x => decide (x ∈ ys) := by
      conv => lhs; rw [← List.take_append_drop down (ps.map (·.2))]
      rw [List.filter_append]
      congr 1
      refine List.filter_eq_self.mpr fun x hx => decide_eq_true (hp.mem_iff.mpr ?_)
      rw [List.map_take]; exact hx
    rw [e, List.map_append, List.sum_append]
    have := sum_nn (c := fun x => (homes.count x : Int)) (fun _ => Int.natCast_nonneg _) (((ps.map (·.2)).drop down).filter fun x => decide (x ∈ ys))
    omega
  have f1 := filt_len homes fun x => decide (x ∈ L)
  have f2 := filt_len homes fun x => decide (x ∈ ys)
  unfold upN
  omega
noncomputable def leftN (size : Int) (r : Rule) (hs : List Host) (kind : Str) (down : Int) (p : Int) : Nat := upN (homesF size r hs kind p) (worstF (homesF size r hs kind p) down.toNat)
/-- the first cell that does not keep so many -/
noncomputable def breachF (size : Int) (r : Rule) (hs : List Host) (kind : Str) (down left : Int) : Option (Int × Int × Int) := (partF size (allM hs)).find? fun t => decide ((leftN size r hs kind down t.2.2 : Int) < left)
noncomputable def breachD (size : Int) (r : Rule) (hs : List Host) (kind : Str) (down left : Int) : D := match breachF size r hs kind down left with
  | none => .non
  | some t => .tup [.int t.1, strsT (worstF (homesF size r hs kind t.2.2) down.toNat)]
def sd_worst_fall (C : Addr) : SpD := fun ds M q _ => ∃ (homes : List Str) (down : Int), ds = [.lst (homes.map D.str), .int down] ∧ 0 ≤ down ∧ homes.length ≤ 60 ∧ ∀ ys M', Worst homes down.toNat ys → Kept M M' → q (strsT ys) M'
def sd_breach (C : Addr) : SpD := fun ds M q _ => ∃ (size : Int) (r : Rule) (hs : List Host) (kind : Str) (down left : Int), ds = [ringD C size r hs, .str kind, .int down, .int left] ∧ 1 ≤ size ∧ CrewOk size hs ∧ RuleOk r ∧ (crewM hs).length < 64 ∧ (kind = "hosts" ∨ kind = "racks") ∧ 0 ≤ down ∧ down ≤ 12 ∧ 0 ≤ left ∧ left ≤ 5 ∧ ∀ M', Kept M M' → q (breachD size r hs kind down left) M'
def sd_bears (C : Addr) : SpD := fun ds M q _ => ∃ (size : Int) (r : Rule) (hs : List Host) (kind : Str) (down left : Int), ds = [ringD C size r hs, .str kind, .int down, .int left] ∧ 1 ≤ size ∧ CrewOk size hs ∧ RuleOk r ∧ (crewM hs).length < 64 ∧ (kind = "hosts" ∨ kind = "racks") ∧ 0 ≤ down ∧ down ≤ 12 ∧ 0 ≤ left ∧ left ≤ 5 ∧ ∀ M', Kept M M' → q (.bl (breachF size r hs kind down left).isNone) M'
end R
set_option maxRecDepth 100000
namespace R
open PySem PySem.Spec PyProof.Rows L2 DL
abbrev N_worst_fall : List Str := ["homes", "down", "counts", "most_first", "home", "many", "_"]
def db_worst_fall (C : Addr) : DS :=
    (dSeq (dSet 2 (dDc (dIter (dVar 0)) (gdName 4) dYes (dVar 4) (dCount (dVar 0) (dCons (dVar 4) dNil)) [4]))
    (dSeq (dSet 3 (dCB rdSortPT (dCons (dLockE 2 (dLc (dIterI (dVar 2)) (gdTup 2 (gdCons (gdName 4) (gdCons (gdName 5) gdNil))) dYes (dTup (dCons (dUn rdNeg (dVar 5)) (dCons (dVar 4) dNil))) [4, 5])) dNil)))
    (dRet (dCB rdTuple (dCons (dCB rdSortS (dCons (dLc (dIter (dSl rdSl (dVar 3) dNo (dPart (dVar 1)))) (gdTup 2 (gdCons (gdName 6) (gdCons (gdName 4) gdNil))) dYes (dVar 4) [6, 4]) dNil)) dNil)))))
abbrev N_Ring___getitem__ : List Str := ["self", "at", "name", "rack", "marks"]
def db_Ring___getitem__ (C : Addr) : DS :=
    (dSeq (dFor (dIter (dFld C "_hosts" (dVar 0))) (gdTup 3 (gdCons (gdName 2) (gdCons (gdName 3) (gdCons (gdName 4) gdNil)))) (dIfS (dAnd (dTru (dIsi "str" (dVar 1))) (dTst (dOp rdEq (dVar 1) (dVar 2)))) (dRet (dTup (dCons (dVar 3) (dCons (dVar 4) dNil)))) dNext))
    dNever)
abbrev N_breach : List Str := ["ring", "kind", "down", "left", "first", "_", "keepers", "homes", "names", "name", "home"]
def db_breach (C : Addr) : DS :=
    (dSeq (dExp (dCall 1 (sd_check_ring C) (dCons (dVar 0) dNil)))
    (dSeq (dIfS (dNot (dTru (dCall 2 (sd_is_word_of C) (dCons (dVar 1) (dCons (dC (.tup [.str "hosts", .str "racks"])) dNil))))) dNever dNext)
    (dSeq (dIfS (dNot (dTru (dCall 3 (sd_is_from_to C) (dCons (dVar 2) (dCons (dC (.int 0)) (dCons (dC (.int 12)) dNil)))))) dNever dNext)
    (dSeq (dIfS (dNot (dTru (dCall 3 (sd_is_from_to C) (dCons (dVar 3) (dCons (dC (.int 0)) (dCons (dC (.int 5)) dNil)))))) dNever dNext)
    (dSeq (dFor (dIter (dCall 1 (sd_cells C) (dCons (dVar 0) dNil))) (gdTup 3 (gdCons (gdName 4) (gdCons (gdName 5) (gdCons (gdName 6) gdNil)))) (dSeq (dSet 7 (dLc (dIter (dVar 6)) (gdName 9) dYes (dIf (dTst (dOp rdEq (dVar 1) (dC (.str "hosts")))) (dVar 9) (dOp rdIx (dItem C (sd_Ring___getitem__ C) (dVar 0) (dVar 9)) (dC (.int 0)))) [9]))
    (dSeq (dSet 8 (dCall 2 (sd_worst_fall C) (dCons (dVar 7) (dCons (dVar 2) dNil))))
    (dIfS (dTst (dOp rdLt (dCB rdLen (dCons (dLc (dIter (dVar 7)) (gdName 10) (dTst (dOp (rdIn true) (dVar 10) (dVar 8))) (dVar 10) [10]) dNil)) (dVar 3))) (dRet (dTup (dCons (dVar 4) (dCons (dVar 8) dNil)))) dNext))))
    (dRet (dC .non)))))))
abbrev N_bears : List Str := ["ring", "kind", "down", "left"]
def db_bears (C : Addr) : DS :=
    (dRet (dIsN (dCall 4 (sd_breach C) (dCons (dVar 0) (dCons (dVar 1) (dCons (dVar 2) (dCons (dVar 3) dNil)))))))
end R
set_option maxRecDepth 100000
set_option maxHeartbeats 1000000
namespace R
open PySem PySem.Spec PyProof.Rows L2 DL
local macro_rules | `(tactic| bv_omega) => `(tactic| first | assumption | exact mset_same)
local macro_rules | `(tactic| symm) => `(tactic| first
  | ((with_reducible show ∃ _, _ = _ ∧ _); refine ⟨_, rfl, ?_⟩)
  | ((with_reducible show _ = _ ∧ _); refine ⟨rfl, ?_⟩)
  | ((with_reducible show ∃ _ _, _ = _ ∧ _ = _ ∧ _); refine ⟨_, _, rfl, rfl, ?_⟩)
  | ((with_reducible show ∃ _ _, _ = _ ∧ _); refine ⟨_, _, rfl, ?_⟩)
  | ((with_reducible show ∃ _ _ _, _ = _ ∧ _); refine ⟨_, _, _, rfl, ?_⟩)
  | ((with_reducible show (_ ≤ _ ∧ _) ∧ _); refine ⟨by omega, ?_⟩)
  | with_reducible refine add_int ?_ | with_reducible refine sub_int ?_
  | with_reducible refine lt_int ?_ | with_reducible refine le_int ?_ | with_reducible refine gt_int ?_ | with_reducible refine ge_int ?_
  | with_reducible refine int_int ?_
  | with_reducible refine eq_int ?_ | with_reducible refine ne_int ?_
  | with_reducible refine len_tup ?_ | with_reducible refine len_lst ?_
  | ((with_reducible show rdIx (.cel _) (.int _) _ _); refine ix_cel (by bv_omega) (by rfl) ?_)
  | ((with_reducible show rdIx (.lst _) (.int _) _ _); refine ix_lst (by rfl) ?_)
  | ((with_reducible show rdIx (.tup _) (.int _) _ _); refine ix_tup (by rfl) ?_)
  | ((with_reducible show rdLen [.cel _] _ _); refine len_cel (by bv_omega) ?_)
  | ((with_reducible show rdMul (.int _) (.int _) _ _); first | refine mul_l (by decide) (by decide) ?_ | refine mul_r (by decide) (by decide) ?_ | refine mul_l (by omega) (by omega) ?_ | refine mul_r (by omega) (by omega) ?_)
  | ((with_reducible show rdDiv (.int _) (.int _) _ _); refine div_int (by first | decide | assumption | omega) (by first | decide | assumption | omega) ?_)
  | ((with_reducible show rdDivmod [.int _, .int _] _ _); refine dm_int (by first | decide | assumption | omega) (by first | decide | assumption | omega) ?_)
  | ((with_reducible show @ite _ (_ = true) _ _ _); first | refine ifYes (by first | with_reducible rfl | exact Bool.not_false | assumption) ?_ | refine ifNo (by first | with_reducible rfl | exact Bool.not_true | assumption) ?_)
  | ((with_reducible show ∃ _, _ ∧ _); refine ⟨_, celL_of (by bv_omega), ?_⟩)
  | ((with_reducible show ∃ _ _ _ _, _ ∧ _ ∧ _ ∧ _ ∧ _); refine ⟨_, _, _, _, rfl, rfl, by bv_omega, by rfl, ?_⟩)
  | ((with_reducible show (_ : Nat) ≤ sizeLine ∧ _); refine ⟨by rw [sizeLine_eq]; exact Nat.le_of_ble_eq_true rfl, ?_⟩))
local macro_rules | `(tactic| infer_instance) => `(tactic| ((repeat symm); try dsimp only))
local macro_rules | `(tactic| ac_rfl) => `(tactic| ((repeat (first | symm | ((with_reducible show rdMod (.int _) (.int _) _ _); refine mod_any (by first | decide | assumption | omega) ?_; intro _ _ _))); try dsimp only))
theorem kp_Ring___getitem__ (C : Addr) : Keeps N_Ring___getitem__ 2 (sd_Ring___getitem__ C) (db_Ring___getitem__ C) := by
  rintro ds M q ex hl ⟨size, r, hs, x, rfl, hc, hx, h⟩
  show db_Ring___getitem__ C _ [some (ringD C size r hs), some (.str x), none, none, none] M
  unfold db_Ring___getitem__
  infer_instance
  refine fld_ring lk_hosts ?_
  infer_instance
  have hxn : nameB x = true := by
    obtain ⟨o, ho, e⟩ := List.mem_map.mp hx
    rw [← e]; exact crew_name hc o ho
  refine for_lst (fun i env M' => M' = M ∧ (∃ t u v, env = [some (ringD C size r hs), some (.str x), t, u, v]) ∧ ∀ o ∈ hs.take i, o.name ≠ x) ?_ ?_ _ _ ⟨rfl, ⟨none, none, none, rfl⟩, fun o ho => by simp at ho⟩
  · rintro env M' ⟨rfl, _, hno⟩
    obtain ⟨o, ho, e⟩ := List.mem_map.mp hx
    rw [List.length_map, List.take_length] at hno
    exact absurd e (hno o ho)
  · rintro i y env M' hy ⟨rfl, ⟨t, u, v, rfl⟩, hno⟩ nx hn
    refine ⟨rfl, ?_⟩
    rw [List.getElem?_map] at hy
    obtain ⟨o, ho, rfl⟩ := omap hy
    infer_instance
    refine eq_str (name_ok hxn) (name_ok (crew_name hc o (List.mem_of_getElem? ho))) ?_
    infer_instance
    refine ifD (fun e => ?_) (fun e => ?_)
    · infer_instance
      have := crew_rack hc (List.mem_of_getElem? ho)
      rw [← e] at this
      have h2 := h o.marks
      rw [this] at h2
      exact h2
    · refine hn _ _ ⟨rfl, ⟨_, _, _, rfl⟩, fun p hp => ?_⟩
      rw [List.take_succ, ho] at hp
      rcases List.mem_append.mp hp with hp | hp
      · exact hno p hp
      · have : p = o := by simpa using hp
        rw [this]; exact fun z => e z.symm
theorem cnt_set {homes ns : List Str} {x : Str} : setK (ns.map fun h => ((Sum.inr h : Key), D.int (homes.count h : Nat))) (.inr x) (.int (homes.count x : Nat)) = (if x ∈ ns then ns else ns ++ [x]).map fun h => ((Sum.inr h : Key), D.int (homes.count h : Nat)) := by
  unfold setK
  by_cases e : x ∈ ns
  · rw [if_pos e, if_pos (List.any_eq_true.mpr ⟨_, List.mem_map.mpr ⟨x, e, rfl⟩, by simp⟩), List.map_map]
    refine List.map_congr_left fun h _ => ?_
    show (if (Sum.inr h : Key) = Sum.inr x then ((Sum.inr h : Key), D.int (homes.count x : Nat)) else (Sum.inr h, D.int (homes.count h : Nat))) = _
    by_cases e2 : h = x
    · subst e2; rw [if_pos rfl]
    · rw [if_neg fun z => e2 (Sum.inr.inj z)]
  · rw [if_neg e, if_neg, List.map_append]
    · rfl
    · intro z
      obtain ⟨kv, h1, h2⟩ := List.any_eq_true.mp z
      obtain ⟨h, hh, rfl⟩ := List.mem_map.mp h1
      have h3 : (Sum.inr h : Key) = Sum.inr x := by simpa using h2
      rw [Sum.inr.inj h3] at hh
      exact e hh
theorem kp_worst_fall (C : Addr) : Keeps N_worst_fall 2 (sd_worst_fall C) (db_worst_fall C) := by
  rintro ds M q ex hl ⟨homes, down, rfl, d0, h60, h⟩
  show db_worst_fall C _ [some (.lst (homes.map D.str)), some (.int down), none, none, none, none, none] M
  unfold db_worst_fall
  have hml : (homes.map D.str).length = homes.length := List.length_map _
  infer_instance
  intro c hcn
  refine dc_lst (fun i M' => ∃ ns : List Str, M' = mset M c (.dc (ns.map fun h => ((Sum.inr h : Key), D.int (homes.count h : Nat)))) ∧ ns.Nodup ∧ ns.length ≤ i ∧ ∀ h, h ∈ ns ↔ h ∈ homes.take i) ?_ ?_ _ ⟨[], rfl, .nil, Nat.le_refl _, fun h => by simp⟩
  · rintro M' ⟨ns, rfl, nd, hnl, hm⟩
    refine ⟨rfl, ?_⟩
    rw [hml] at hnl hm
    rw [List.take_length] at hm
    infer_instance
    obtain ⟨d, rfl⟩ := Int.eq_ofNat_of_zero_le d0
    refine ⟨c, _, rfl, mset_same, fun o rs => ?_⟩
    infer_instance
    refine ⟨c, o, rs, _, rfl, mset_same, ?_⟩
    intro c2 hc2
    have hcc : c ≠ c2 := fun e => by rw [← e, mset_same] at hc2; cases hc2
    rw [List.map_map]
    refine lc_all (fun h : Str => (D.tup [.str h, .int (homes.count h : Nat)])) (fun h => DL.pairD (-(homes.count h : Int), h)) hc2 (by rw [sizeLine_eq]; omega) (fun _ => by rw [mset_ne hcc]; exact mset_same) (fun y hy acc hz nx hnx => ?_) ?_
    · infer_instance
      refine neg_int ?_
      infer_instance
      exact acc_put hz hnx
    refine ⟨mset_same, ?_⟩
    infer_instance
    have e0 : (ns.map fun h => DL.pairD (-(homes.count h : Int), h)) = (ns.map fun h => (-(homes.count h : Int), h)).map DL.pairD := by rw [List.map_map]; rfl
    rw [e0]
    refine ⟨_, _, rfl, rfl, fun ps hp hs => ?_⟩
    have e1 : (ns.map fun h => (-(homes.count h : Int), h)).map (·.2) = ns := by rw [List.map_map]; exact List.map_id' _
    have hpl := hp.length_eq
    rw [List.length_map] at hpl
    have R : Rank homes ps := ⟨by rw [(hp.map (·.2)).nodup_iff, e1]; exact nd, fun h => by rw [(hp.map (·.2)).mem_iff, e1]; exact hm h, fun a ha => by
      obtain ⟨h, _, rfl⟩ := List.mem_map.mp (hp.mem_iff.mp ha)
      rfl, hs⟩
    infer_instance
    refine sl_lst (n := d) ?_
    rw [← List.map_take]
    infer_instance
    intro c3 hc3
    refine lc_all DL.pairD (fun p => .str p.2) hc3 (by rw [List.length_take, sizeLine_eq]; omega) (fun _ => rfl) (fun y hy acc hz nx hnx => ?_) ?_
    · show gdTup 2 _ (.tup [.int y.1, .str y.2]) _ _ _ _
      infer_instance
      exact acc_put hz hnx
    infer_instance
    have e2 : ((ps.take d).map fun p => D.str p.2) = ((ps.take d).map (·.2)).map D.str := by rw [List.map_map]; rfl
    rw [e2]
    refine ⟨_, _, (ps.take d).map (·.2), rfl, rfl, DL.strs_map _, by rw [List.length_map, List.length_take]; omega, fun ys hp2 hs2 => ?_⟩
    infer_instance
    refine ⟨_, _, rfl, rfl, ?_⟩
    exact h ys _ ⟨ps, R, by rw [show (d : Int).toNat = d by omega]; exact hp2, hs2⟩ (((Kept.new hcn).put hcn).put hcn)
  · rintro i x M' hx ⟨ns, rfl, nd, hnl, hm⟩ nx hnx
    refine ⟨rfl, ?_⟩
    rw [List.getElem?_map] at hx
    obtain ⟨y, hy, rfl⟩ := omap hx
    have hi := (List.getElem?_eq_some_iff.mp hy).1
    have ht : homes.take (i + 1) = homes.take i ++ [y] := by rw [List.take_add_one, hy]; rfl
    infer_instance
    refine ⟨⟨_, rfl⟩, ?_⟩
    infer_instance
    refine ⟨_, _, rfl, mset_same, by rw [List.length_map, sizeLine_eq]; omega, hnx _ ⟨if y ∈ ns then ns else ns ++ [y], ?_, ?_, ?_, fun h => ?_⟩⟩
    · rw [mset_mset, cnt_set]
    · split
      · exact nd
      · rename_i e
        rw [List.nodup_append]
        refine ⟨nd, by simp, fun a ha b hb e2 => ?_⟩
        rw [List.mem_singleton.mp hb] at e2
        exact e (e2 ▸ ha)
    · split
      · omega
      · rw [List.length_append, List.length_singleton]; omega
    · rw [ht, List.mem_append, List.mem_singleton, ← hm]
      split
      · rename_i e
        exact ⟨.inl, fun z => z.elim id fun z => z ▸ e⟩
      · rw [List.mem_append, List.mem_singleton]
theorem find_at {α : Type} {p : α → Bool} {t : α} : ∀ {l : List α} {i : Nat}, l[i]? = some t → p t = true → (∀ s ∈ l.take i, p s = false) → l.find? p = some t
  | [], i, h, _, _ => by simp at h
  | a :: l, 0, h, hp, _ => by
    obtain rfl : a = t := by simpa using h
    rw [List.find?_cons, hp]
  | a :: l, i + 1, h, hp, hn => by
    have ha := hn a (by rw [List.take_succ_cons]; exact List.mem_cons_self)
    rw [List.find?_cons, ha]
    exact find_at (by simpa using h) hp fun s hs => hn s (by rw [List.take_succ_cons]; exact List.mem_cons_of_mem _ hs)
theorem kp_breach (C : Addr) : Keeps N_breach 4 (sd_breach C) (db_breach C) := by
  rintro ds M q ex hl ⟨size, r, hs, kind, down, left, rfl, s1, hc, hr, h64, hk, d0, d1, l0, l1, h⟩
  show db_breach C _ [some (ringD C size r hs), some (.str kind), some (.int down), some (.int left), none, none, none, none, none, none, none] M
  unfold db_breach
  have hkw : kind ∈ (["hosts", "racks"] : List Str) := by rcases hk with e | e <;> rw [e] <;> simp
  have hko : PyData.strOk kind = true := by rcases hk with e | e <;> rw [e] <;> decide +kernel
  infer_instance
  refine ⟨size, r, hs, rfl, ?_⟩
  infer_instance
  refine .inl ⟨kind, ["hosts", "racks"], rfl, ?_⟩
  rw [decide_eq_true hkw]
  infer_instance
  refine ⟨down, 0, 12, rfl, ?_⟩
  rw [decide_eq_true ⟨d0, d1⟩]
  infer_instance
  refine ⟨left, 0, 5, rfl, ?_⟩
  rw [decide_eq_true ⟨l0, l1⟩]
  infer_instance
  refine ⟨size, r, hs, rfl, s1, hc, hr, h64, fun M1 hK1 => ?_⟩
  infer_instance
  refine for_map (cellD size r hs) (xs := partF size (allM hs)) (fun i env M' => ∃ w4 w5 w6 w7 w8 w9 wa : Option D, Kept M M' ∧ env = [some (ringD C size r hs), some (.str kind), some (.int down), some (.int left), w4, w5, w6, w7, w8, w9, wa] ∧ ∀ t ∈ (partF size (allM hs)).take i, decide ((leftN size r hs kind down t.2.2 : Int) < left) = false) ?_ ?_ _ _ ⟨_, _, _, _, _, _, _, hK1, rfl, by simp⟩
  · rintro env M' ⟨w4, w5, w6, w7, w8, w9, wa, hK, rfl, hno⟩
    refine ⟨rfl, ?_⟩
    rw [List.take_length] at hno
    have e : breachF size r hs kind down left = none := by
      unfold breachF
      exact List.find?_eq_none.mpr fun t ht => by rw [hno t ht]; exact Bool.false_ne_true
    infer_instance
    have h2 := h M' hK
    unfold breachD at h2
    rw [e] at h2
    exact h2
  · rintro i t env M' ht ⟨w4, w5, w6, w7, w8, w9, wa, hK, rfl, hno⟩ nx hnx
    refine ⟨rfl, ?_⟩
    have hkl := keepF_len (size := size) (p := t.2.2) (hs := hs) hr
    show gdTup 3 _ (.tup [.int t.1, .int t.2.1, strsT (keepF size r hs t.2.2)]) _ _ _ _
    infer_instance
    intro c hcn
    refine lc_all D.str (fun x => .str (homeOf hs kind x)) hcn (by rw [sizeLine_eq]; omega) (fun _ => rfl) (fun x hx acc hz nx2 hnx2 => ?_) ?_
    · have hxm := keepF_in hc hr x hx
      infer_instance
      refine eq_str hko (by decide +kernel) ?_
      infer_instance
      refine ifD (fun e => ?_) (fun e => ?_)
      · infer_instance
        have e2 : homeOf hs kind x = x := by unfold homeOf; rw [if_pos e]
        rw [e2] at hnx2
        exact acc_put hz hnx2
      · infer_instance
        refine ⟨_, fs_ring, size, r, hs, x, rfl, hc, hxm, fun ms => ?_⟩
        infer_instance
        have e2 : homeOf hs kind x = rackOf hs x := by unfold homeOf; rw [if_neg e]
        rw [e2] at hnx2
        exact acc_put hz hnx2
    have e0 : ((keepF size r hs t.2.2).map fun x => D.str (homeOf hs kind x)) = (homesF size r hs kind t.2.2).map D.str := by unfold homesF; rw [List.map_map]; rfl
    rw [e0]
    have hhl : (homesF size r hs kind t.2.2).length ≤ 5 := by unfold homesF; rw [List.length_map]; exact hkl
    infer_instance
    refine ⟨_, down, rfl, d0, by omega, fun ys M2 hw hK2 => ?_⟩
    obtain rfl := worst_eq hw
    infer_instance
    intro c2 hc2
    refine lc_map D.str (fun x => !decide (x ∈ worstF (homesF size r hs kind t.2.2) down.toNat)) D.str hc2 (by rw [sizeLine_eq]; omega) (fun _ => rfl) (fun x hx acc hz nx2 hyes hn2 => ?_) ?_
    · infer_instance
      refine ni_str (xs := worstF (homesF size r hs kind t.2.2) down.toNat) rfl ?_
      infer_instance
      refine ifB (fun hb => ?_) (fun hb => ?_)
      · infer_instance
        exact acc_put hz (hyes hb)
      · exact hn2 hb
    infer_instance
    rw [List.length_map]
    refine ifD (fun e => ?_) (fun e => ?_)
    · infer_instance
      have ef : breachF size r hs kind down left = some t := by
        unfold breachF
        exact find_at ht (decide_eq_true e) hno
      have h2 := h M2 (hK.trans hK2)
      unfold breachD at h2
      rw [ef] at h2
      exact h2
    · infer_instance
      refine hnx _ _ ⟨_, _, _, _, _, _, _, hK.trans hK2, rfl, fun s hs2 => ?_⟩
      rw [List.take_add_one, ht] at hs2
      rcases List.mem_append.mp hs2 with z | z
      · exact hno s z
      · have e9 : s = t := by simpa using z
        rw [e9]; exact decide_eq_false e
theorem kp_bears (C : Addr) : Keeps N_bears 4 (sd_bears C) (db_bears C) := by
  rintro ds M q ex hl ⟨size, r, hs, kind, down, left, rfl, s1, hc, hr, h64, hk, d0, d1, l0, l1, h⟩
  show db_bears C _ [some (ringD C size r hs), some (.str kind), some (.int down), some (.int left)] M
  unfold db_bears
  infer_instance
  refine ⟨size, r, hs, kind, down, left, rfl, s1, hc, hr, h64, hk, d0, d1, l0, l1, fun M1 hK1 => ?_⟩
  have h2 := h M1 hK1
  unfold breachD
  cases e : breachF size r hs kind down left with
  | none =>
    rw [e] at h2
    infer_instance
    exact h2
  | some t =>
    rw [e] at h2
    infer_instance
    exact h2
def homeS (kind : Str) (o : Host) : Str := if kind = "hosts" then o.name else o.rack
/-- what a host's home is, in the law's dict -/
def homeL (hs : List Host) (kind : Str) : List (Key × D) := hs.map fun o => (Sum.inr o.name, D.str (homeS kind o))
theorem home_one {size : Int} {hs : List Host} (hc : CrewOk size hs) (kind : Str) {o : Host} (ho : o ∈ hs) : homeOf hs kind o.name = homeS kind o := by
  unfold homeOf homeS
  rw [crew_rack hc ho]
theorem home_at {size : Int} {hs : List Host} (hc : CrewOk size hs) {kind x : Str} (hx : x ∈ hs.map (·.name)) : getK (mergeD [] (homeL hs kind)) (.inr x) = some (.str (homeOf hs kind x)) := by
  obtain ⟨o, ho, rfl⟩ := List.mem_map.mp hx
  refine merge_at ?_ ?_
  · unfold homeL
    rw [List.map_map]
    have := crew_nodup hc
    unfold List.Nodup at this ⊢
    rw [List.pairwise_map] at this ⊢
    exact this.imp fun {a b} hab e => hab (Sum.inr.inj e)
  · rw [home_one hc kind ho]
    exact List.mem_map.mpr ⟨o, ho, rfl⟩
theorem home_kv (kind : Str) : ∀ l : List Host, kvsD (l.map fun o => D.tup [.str o.name, .str (homeS kind o)]) = some (homeL l kind)
  | [] => rfl
  | o :: l => by
    show (match keyD (.str o.name), kvsD (l.map fun o => D.tup [.str o.name, .str (homeS kind o)]) with | some k, some r => some ((k, D.str (homeS kind o)) :: r) | _, _ => none) = _
    rw [home_kv kind l]; rfl
theorem bears_iff {size : Int} {r : Rule} {hs : List Host} {kind : Str} {many left : Int} (s1 : 1 ≤ size) (hc : CrewOk size hs) (m0 : 0 ≤ many) : (breachF size r hs kind many left).isNone = true ↔ ∀ p, 0 ≤ p → p < size → ∀ L : List Str, (L.length : Int) ≤ many → left ≤ (upN (homesF size r hs kind p) L : Int) := by
  unfold breachF
  rw [Option.isNone_iff_eq_none, List.find?_eq_none]
  constructor
  · intro h p p0 p1 L hL
    obtain ⟨t, ht, _, e⟩ := cell_keep (r := r) s1 hc p0 p1
    have h1 := h t ht
    have h2 : ¬ (leftN size r hs kind many t.2.2 : Int) < left := fun z => h1 (decide_eq_true z)
    have h3 := worst_best (worst_is (homesF size r hs kind t.2.2) many.toNat) (L := L) (by omega)
    have e2 : homesF size r hs kind t.2.2 = homesF size r hs kind p := by unfold homesF; rw [e]
    unfold leftN at h2
    rw [e2] at h2 h3
    omega
  · intro h t ht z
    have hm : t.2.2 ∈ allM hs := by
      rw [← partF_edge (size := size) (ms := allM hs)]
      exact List.mem_map.mpr ⟨t, ht, rfl⟩
    have hi := allM_in hc hm
    have := worst_few (worst_is (homesF size r hs kind t.2.2) many.toNat)
    have h2 := h t.2.2 hi.1 hi.2 (worstF (homesF size r hs kind t.2.2) many.toNat) (by omega)
    have h3 := of_decide_eq_true z
    unfold leftN at h3
    omega
section
variable {α : Type} {ok : Mem → Prop} {g : GD} {t : DT} {de : DE} {env : EnvD} {q : QD} {c : Addr} {M : Mem}
theorem lc_kept (emb : α → D) (f : α → D) {xs : List α} (hc : M c = none) (hn : xs.length ≤ sizeLine) (hok : ∀ M', Kept M M' → ok M')
    (hs : ∀ x ∈ xs, ∀ M1, Kept M M1 → ∀ (K : QD) (K2 : Mem → Prop), (∀ M3, Kept M1 M3 → K (f x) M3) → g (emb x) env M1 (fun env' M' => t env' M' (fun b M2 => if b = true then de env' M2 K noX else K2 M2) noX) (fun _ => noX))
    (hq : ∀ M', Kept M M' → q (.lst (xs.map f)) M') : lcW ok g t de env q c (xs.map emb) (mset M c (.ls [])) := by
  refine lc_lst (fun i M' => Kept M M' ∧ M' c = some (.ls ((xs.take i).map f))) ?_ ?_ _ ⟨Kept.new hc, by rw [List.take_zero]; exact mset_same⟩
  · rintro M' ⟨hK, hC⟩
    rw [List.length_map, List.take_length] at hC
    exact ⟨hok M' hK, _, hC, hq _ (hK.del hc)⟩
  · rintro i x M' hx ⟨hK, hC⟩ nx hnx
    rw [List.getElem?_map] at hx
    obtain ⟨y, hy, rfl⟩ := omap hx
    have hi := (List.getElem?_eq_some_iff.mp hy).1
    refine ⟨hok M' hK, hs y (List.mem_of_getElem? hy) M' hK _ _ fun M3 hK3 => ?_⟩
    refine ⟨_, hK3 _ _ hC, by rw [List.length_map, List.length_take]; omega, hnx _ ⟨(hK.trans hK3).put hc, ?_⟩⟩
    rw [mset_same, List.take_add_one, hy, List.map_append]; rfl
end
end R
set_option maxRecDepth 100000
set_option maxHeartbeats 4000000
namespace DL
open PySem PySem.Spec PyProof.Rows L2
def IsPairT (h : Heap) (v : Value) (x : PySem.Str) (z : Int) : Prop := ∃ (a : Addr) (o : Obj) (t u : Tok) (n : Nat), v = .ref a ∧ h.get? a = some o ∧ o.cls = .type "tuple" ∧ o.data = .seq #[.str x t, .int z u] n
theorem IsPairT.keeps {h h' : Heap} {v : Value} {x : PySem.Str} {z : Int} (p : IsPairT h v x z) (k : ∀ b o, h.get? b = some o → o.cls = .type "tuple" → h'.get? b = some o) : IsPairT h' v x z := by
  obtain ⟨a, o, t, u, n, e, ho, hc, hd⟩ := p
  exact ⟨a, o, t, u, n, e, k a o ho hc, hc, hd⟩
end DL
set_option maxRecDepth 100000
set_option maxHeartbeats 4000000
namespace DL
open PySem PySem.Spec PyProof.Rows L2
section
variable {X : Cx} {W : WX}
def rdInT (neg : Bool) : RD2 := fun x y M q => ∃ a bs, pyOf M x = some a ∧ pyOf M y = some (.tuple bs) ∧ SeqAt.shaped a = true ∧ SeqAt.shaped (.tuple bs) = true ∧ q (.bl (bs.any fun z => PyData.eqv z a)) M
def rInTD (K : PySem.W.Frag) : R2 := fun x y H Q => ∃ d ds, Dp K H x d ∧ Dp K H y (.tuple ds) ∧ SeqAt.shaped d = true ∧ SeqAt.shaped (.tuple ds) = true ∧ Q (.bl (ds.any fun z => PyData.eqv z d)) H
theorem op_inTD (hu : X.A.units + 65 < cLine) : OpR X (compareOp .In) (rInTD X.K) := fun pins s σ H x y v u Q I rx ry ⟨d, ds, hd, he, sd, se, q⟩ => by
  obtain ⟨as, r1⟩ := Dp.reads I d x v hd rx
  obtain ⟨bs, r2⟩ := Dp.reads I (.tuple ds) y u he ry
  exact SeqAt.in_tuple_reads r2 r1 (SeqAt.canLay_of_shaped se) (SeqAt.canLay_of_shaped sd) (room_in_shaped sd hu) ⟨.bl _, H, I, rfl, q⟩
theorem opd_inT (hu : X.A.units + 65 < cLine) : OpD X (compareOp .In) (rdInT false) := ⟨_, op_inTD hu, fun H0 H M x y dx dy q Q S hx hy w k => by
  obtain ⟨a, b, ea, eb, sa, sb, w⟩ := w
  exact ⟨a, b, S.py hx ea, S.py hy eb, sa, sb, k.here S (.bl _) w⟩⟩
def rdIsNotB : RD2 := fun x y M q => ∃ a b, x = .bl a ∧ y = .bl b ∧ q (.bl (!decide (a = b))) M
theorem opd_isnotB : OpD X (compareOp .IsNot) rdIsNotB := ⟨_, op_isnot_bl, fun H0 H M x y dx dy q Q S hx hy w k => by
  obtain ⟨a, b, rfl, rfl, w⟩ := w
  exact ⟨a, b, hx.inv_bl, hy.inv_bl, k.here S (.bl _) w⟩⟩
theorem itd_ok {K : PySem.W.Frag} {H0 : Hp} {c : Addr} {o : Obj} {rs : List (Key × V)} {ds : List (Key × D)} : ItOk K H0 (Itd c o rs) (ds.map (·.2)) (fun M => M c = some (.fd o rs ds)) where
  go := fun H0' H M i y e S ok hi => by
    obtain ⟨n0, a, b⟩ := S.any c _ ok
    rw [List.getElem?_map] at hi
    obtain ⟨kv, hk, rfl⟩ := omap hi
    have hlt := (List.getElem?_eq_some_iff.mp hk).1
    have hl := b.length
    have key : ∀ {r : List (Key × V)} {s : List (Key × D)}, KvL K H0' r s → ∀ (j : Nat) (k : Key) (v : V) (kv : Key × D), r[j]? = some (k, v) → s[j]? = some kv → Dn K H0' v kv.2 := by
      intro r s hb
      induction hb with
      | nil => intro j k v kv h; simp at h
      | cons hd _ ih =>
        intro j k v kv h1 h2
        cases j with
        | zero =>
          simp at h1 h2
          rw [← h2, ← h1.2]
          exact hd
        | succ j => exact ih j k v kv (by simpa using h1) (by simpa using h2)
    refine ⟨⟨a, by omega⟩, fun x H' ⟨e1, k, e2⟩ => ?_⟩
    subst e1
    exact ⟨H0', Ext.refl _, S, key b i k x kv e2 hk⟩
  stop := fun H0' H M i e S ok hi => by
    obtain ⟨n0, a, b⟩ := S.any c _ ok
    rw [List.length_map] at hi
    exact ⟨a, by rw [b.length]; exact hi⟩
@[reducible] def dIterV (de : DE) : DI := fun env M q E => de env M (fun d M1 => ∃ c o rs ds, d = .cel c ∧ M1 c = some (.fd o rs ds) ∧ q (ds.map (·.2)) (fun M' => M' c = some (.fd o rs ds)) M1) E
theorem id_values {tg e : Expr} {de : DE} {apos cpos : Pos} (h : PD X W e de) (hbase : attributeBase e "values" X.env (eval e X.env) = eval e X.env := by rfl) (hline : (apos.endLine == cpos.line) = true := by rfl) : ID X W tg (.Call (.Attribute e "values" apos) [] [] cpos) (dIterV de) := piImp (pi_values h hbase hline) fun σ H R ⟨env, M, q, E, H0, so, S, h, k, kx⟩ =>
  goE so S h kx fun x dx H1 H' M1 e1 so1 S1 rx ⟨c, o, rs, ds, ed, hm, w⟩ kx1 => by
    subst ed
    cases rx
    obtain ⟨n0, a, b⟩ := S1.any c _ hm
    exact ⟨c, o, rs, rfl, a, k _ _ _ H1 H' M1 e1 S1 itd_ok w⟩
def rLenSet (X : Cx) : List V → Hp → VK → Prop := fun vs H Q => ∃ (a : Addr) (ks : List PySem.Str), vs = [V.ref a] ∧ H a = some (SetTO X.prog X.w a ks) ∧ Q (.int (ks.length : Nat)) H
theorem cr_lenSet : CallR X (.builtin "len") (rLenSet X) := by
  intro pins s σ H vs us Q I r h
  obtain ⟨a, ks, rfl, ha, q⟩ := h
  obtain ⟨o, es, ep, t, B, hp⟩ := (I.hok a _ ha).1
  have hl : es.size = ks.length := by rw [← hp.length_eq, List.length_map, Array.length_toList]
  have hf : es.size < scanBound := B.few
  rw [Vals.ref1 r]
  refine call_len_set B.at_ B.exact_ B.data B.fits (by unfold scanBound at hf; omega) ⟨.int (ks.length : Nat), H, I.tok _, ⟨_, by rw [hl]⟩, q⟩
/-- len(set(l)), l of texts -/
@[reducible] def dLenSetT (de : DE) : DE := fun env M q E => de env M (fun d M1 => ∃ xs ss, seqOf M1 d = some xs ∧ strsD xs = some ss ∧ ss.length < 4000 ∧ q (.int ((SK.dedup ss).length : Nat)) M1) E
theorem pd_lenSetT {e : Expr} {de : DE} {p0 p1 p2 p3 : Pos} (hc : X.calm = true) (hg : Gl X "len") (hm : X.mg "len" = none) (hg2 : Gl X "set") (hm2 : X.mg "set" = none) (he : PD X W e de)
    (hs : starEach [e] X.env = (false, eval e X.env) :: starEach [] X.env := by rfl) (hs2 : starEach [.Call (.Name "set" p1) [e] [] p2] X.env = (false, eval (.Call (.Name "set" p1) [e] [] p2) X.env) :: starEach [] X.env := by rfl) :
    PD X W (.Call (.Name "len" p0) [.Call (.Name "set" p1) [e] [] p2] [] p3) (dLenSetT de) :=
  peImp (pe_callB cr_lenSet hg hm (by decide +kernel) (pa_cons (pe_callTy (cr_setT hc) hg2 hm2 (by decide +kernel) (pa_cons he pa_nil hs) (he := hs)) pa_nil hs2) (he := hs2)) fun σ H Q ⟨env, M, q, E, H0, so, S, h, k, kx⟩ =>
    goE so S h kx fun x dx H1 H' M1 e1 so1 S1 rx ⟨xs, ss, ex, en, hl, w⟩ kx1 => by
      obtain ⟨a, vs, rfl, hs, rs⟩ := S1.seq rx ex
      have z := strs_dn rs en
      subst z
      refine ⟨a, ss, rfl, hs, by omega, fun p hp => ⟨p, _, rfl, upd_same, ?_⟩⟩
      exact (k.mono e1).here (S1.aside hp) (.int _) w
end
end DL
set_option maxRecDepth 100000
namespace L47
open PySem PySem.Spec PyProof.Rows L2 DL R
def rulesT (size : Int) (r : Rule) : D := .tup [.int size, .int r.wide, .str r.spread, .int r.write, .int r.read, .str r.pend]
noncomputable def tableD (size : Int) (r : Rule) (hs : List Host) : D := .lst ((List.range size.toNat).map fun p : Nat => strsL (keepF size r hs (p : Int)))
def poolW : List Str := ["a", "plan", "h2", "ab", "host", "b", "z9zzzzzz", "settle", "c", "join"]
/-- the free slots, one key each -/
structure Slots (M : Mem) (c : Addr) (size : Int) (L : List Int) : Prop where
  at_ : M c = some (.ls [.lst (L.map D.int), .int 1])
  nd : L.Nodup
  inn : ∀ s ∈ L, 0 ≤ s ∧ s < size
  few : L.length ≤ 30
/-- all stays but the well and the slots -/
def KeptC (k c : Addr) (M M' : Mem) : Prop := ∀ d x, M d = some x → d ≠ k → d ≠ c → M' d = some x
def sd_w_dip (C : Addr) : SpD := fun ds M q _ => ∃ (k : Addr) (n g : Int), ds = [.cel k, .int n] ∧ 0 < n ∧ n < 1073741824 ∧ Kg M k g ∧ g < 1099511627776 ∧ ∀ v M', 0 ≤ v → v < n → KeptB k M M' → Kg M' k (g + 1) → q (.int v) M'
def sd_w_of (C : Addr) : SpD := fun ds M q _ => ∃ (k : Addr) (d : D) (xs : List D) (g : Int), ds = [.cel k, d] ∧ d ≠ .cel k ∧ seqOf M d = some xs ∧ 0 < xs.length ∧ xs.length < 1000000 ∧ Kg M k g ∧ g < 1099511627776 ∧ ∀ x M', x ∈ xs → KeptB k M M' → Kg M' k (g + 1) → q x M'
def sd_w_well (C : Addr) : SpD := fun ds M q _ => ∃ (ns : List Int) (t : Nat), ds = [.lsf (ns.map D.int), .int t] ∧ t < 1000 ∧ ns.length ≤ 63 ∧ (∀ n ∈ ns, Builtin.Int.intBits n ≤ 1048576) ∧ ∀ k M', M k = none → Kept M M' → Kg M' k 0 → q (.cel k) M'
def sd_w_slots (C : Addr) : SpD := fun ds M q _ => ∃ size : Int, ds = [.int size] ∧ 1 ≤ size ∧ size ≤ 30 ∧ ∀ (c : Addr) (L : List Int) M', M c = none → Kept M M' → Slots M' c size L → (L.length : Int) = size → q (.cel c) M'
def sd_w_marks (C : Addr) : SpD := fun ds M q _ => ∃ (k c : Addr) (g size : Int) (L : List Int) (many : Nat), ds = [.cel k, .cel c, .int many] ∧ Slots M c size L ∧ size ≤ 30 ∧ 1 ≤ many ∧ many ≤ 16 ∧ many ≤ L.length ∧ Kg M k g ∧ g + 100 < 1099511627776 ∧
  ∀ (ms L' : List Int) M', MarksOk size ms → (ms.length : Int) = many → (∀ m ∈ ms, m ∈ L ∧ m ∉ L') → L'.Sublist L → L'.length + many = L.length → Slots M' c size L' → KeptC k c M M' → Kg M' k (g + 40) → q (intsT ms) M'
def sd_w_names (C : Addr) : SpD := fun ds M q _ => ∃ (k : Addr) (g : Int), ds = [.cel k] ∧ Kg M k g ∧ g < 1099511627776 ∧ ∀ (nl : List Str) M', nl.Perm poolW → KeptB k M M' → Kg M' k (g + 1) → q (strsL nl) M'
def sd_w_hosts (C : Addr) : SpD := fun ds M q _ => ∃ (k c : Addr) (g size : Int) (L : List Int) (nl : List Str) (many each : Nat), ds = [.cel k, .cel c, strsL nl, .int many, .int each] ∧ Slots M c size L ∧ size ≤ 30 ∧ nl.Perm poolW ∧ 1 ≤ many ∧ many ≤ 10 ∧ 1 ≤ each ∧ each ≤ 16 ∧ many * each ≤ L.length ∧ Kg M k g ∧ g + 10000 < 1099511627776 ∧
  ∀ (hs : List Host) M', CrewOk size hs → hs.length = many → (∀ o ∈ hs, o.name ∈ poolW ∧ o.marks.length ≤ each) → KeptC k c M M' → Kg M' k (g + 1000) → q (crewD hs) M'
def sd_w_rules (C : Addr) : SpD := fun ds M q _ => ∃ (k : Addr) (g size most : Int), ds = [.cel k, .int size, .int most] ∧ 1 ≤ most ∧ most ≤ 5 ∧ Kg M k g ∧ g + 100 < 1099511627776 ∧ ∀ (r : Rule) M', RuleOk r → KeptB k M M' → Kg M' k (g + 10) → q (rulesT size r) M'
def sd_w_small (C : Addr) : SpD := fun ds M q _ => ∃ (k : Addr) (g : Int), ds = [.cel k, .int 12, .int 20, .int 4, .int 2] ∧ Kg M k g ∧ g + 100000 < 1099511627776 ∧
  ∀ (size : Int) (r : Rule) (hs : List Host) (nl : List Str) (c : Addr) M', 12 ≤ size → size ≤ 20 → RuleOk r → CrewOk size hs → hs.length ≤ 4 → (∀ o ∈ hs, o.name ∈ poolW ∧ o.marks.length ≤ 2) → KeptB k M M' → Kg M' k (g + 2000) → q (.tup [rulesT size r, crewD hs, strsL nl, .cel c]) M'
def sd_w_made (C : Addr) : SpD := fun ds M q _ => ∃ (size : Int) (r : Rule) (hs : List Host), ds = [rulesT size r, crewD hs] ∧ 1 ≤ size ∧ size ≤ 1000000000000000000 ∧ RuleOk r ∧ CrewOk size hs ∧ ∀ M', Kept M M' → q (ringD C size r hs) M'
def sd_w_keepers (C : Addr) : SpD := fun ds M q _ => ∃ (size p : Int) (r : Rule) (hs : List Host), ds = [rulesT size r, crewD hs, .int p] ∧ 0 < size ∧ CrewOk size hs ∧ RuleOk r ∧ ∀ M', Kept M M' → q (strsL (keepF size r hs p)) M'
def sd_w_table (C : Addr) : SpD := fun ds M q _ => ∃ (size : Int) (r : Rule) (hs : List Host), ds = [rulesT size r, crewD hs] ∧ 0 < size ∧ size ≤ 100 ∧ CrewOk size hs ∧ RuleOk r ∧ ∀ M', Kept M M' → q (tableD size r hs) M'
/-- all parts of so many -/
def sd_w_parts (C : Addr) : SpD := fun ds M q _ => ∃ (ws : List Str) (many : Nat), ds = [strsL ws, .int many] ∧ ws.length ≤ 6 ∧ ∀ (P : List (List Str)) M', P.length ≤ 64 → (∀ X, X ∈ P ↔ X.Sublist ws ∧ X.length = many) → Kept M M' → q (.lst (P.map strsL)) M'
def sd_w_words (C : Addr) : SpD := fun ds M q _ => ∃ (size : Int) (hs : List Host) (kind : Str), ds = [crewD hs, .str kind] ∧ (kind = "hosts" ∨ kind = "racks") ∧ CrewOk size hs ∧ ∀ (c : Addr) (ws : List Str) M', M c = none → Kept M M' → M' c = some (.dc (mergeD [] (homeL hs kind))) → ws.Nodup → (∀ x, x ∈ ws ↔ x ∈ hs.map (homeS kind)) → q (.tup [.cel c, strsL ws]) M'
def sd_w_least_left (C : Addr) : SpD := fun ds M q _ => ∃ (size : Int) (r : Rule) (hs : List Host) (kind : Str) (many : Nat), ds = [crewD hs, tableD size r hs, .str kind, .int many] ∧ (kind = "hosts" ∨ kind = "racks") ∧ 1 ≤ size ∧ size ≤ 100 ∧ CrewOk size hs ∧ RuleOk r ∧ hs.length ≤ 6 ∧ ∀ (v : Int) M', (∀ left : Int, left ≤ v ↔ ∀ p, 0 ≤ p → p < size → ∀ L : List Str, (L.length : Int) ≤ many → left ≤ (upN (homesF size r hs kind p) L : Int)) → Kept M M' → q (.int v) M'
inductive Wish where
  | share (x : Str) (n : Int) | bears (kind : Str) (down left : Int) | racks (m : Int)
def wishD : Wish → D
  | .share x n => .tup [.str "share", .str x, .int n]
  | .bears kind down left => .tup [.str "bears", .str kind, .int down, .int left]
  | .racks m => .tup [.str "racks", .int m]
def WishOk : Wish → Prop
  | .share x n => nameB x = true ∧ 0 ≤ n
  | .bears kind down left => (kind = "hosts" ∨ kind = "racks") ∧ 0 ≤ down ∧ down ≤ 12 ∧ 0 ≤ left ∧ left ≤ 5
  | .racks m => 1 ≤ m ∧ m ≤ 5
/-- how many racks the keepers of a key have -/
noncomputable def racksN (size : Int) (r : Rule) (hs : List Host) (p : Int) : Nat := (SK.dedup ((keepF size r hs p).map (rackOf hs))).length
noncomputable def stF (size : Int) (r : Rule) (hs : List Host) : Wish → Bool
  | .share x n => decide (x ∈ hs.map (·.name)) && decide (x ∈ hs.map (·.name) → keptN size r hs x ≤ n)
  | .bears kind down left => (breachF size r hs kind down left).isNone
  | .racks m => (partF size (allM hs)).all fun t => decide (m ≤ (racksN size r hs t.2.2 : Int))
def sd_is_form_of (C : Addr) : SpD := fun ds M q _ => ∃ w : Wish, ds = [wishD w, .tup [.tup [.str "share", .int 3], .tup [.str "bears", .int 4], .tup [.str "racks", .int 2]]] ∧ q (.bl true) M
def sd_is_wish_for_ring (C : Addr) : SpD := fun ds M q _ => ∃ w : Wish, ds = [wishD w] ∧ WishOk w ∧ q (.bl true) M
def sd_thin_key (C : Addr) : SpD := fun ds M q _ => ∃ (size : Int) (r : Rule) (hs : List Host) (m : Int), ds = [ringD C size r hs, .int m] ∧ 1 ≤ size ∧ CrewOk size hs ∧ RuleOk r ∧ (crewM hs).length < 64 ∧ ∀ d M', DL.isNon d = stF size r hs (.racks m) → Kept M M' → q d M'
def sd_stands (C : Addr) : SpD := fun ds M q _ => ∃ (size : Int) (r : Rule) (hs : List Host) (w : Wish), ds = [ringD C size r hs, wishD w] ∧ 1 ≤ size ∧ CrewOk size hs ∧ RuleOk r ∧ (crewM hs).length < 64 ∧ WishOk w ∧ ∀ M', Kept M M' → q (.bl (stF size r hs w)) M'
def sd_w_shares_right (C : Addr) : SpD := fun ds M q _ => ∃ (size : Int) (r : Rule) (hs : List Host), ds = [ringD C size r hs, crewD hs, tableD size r hs] ∧ 1 ≤ size ∧ size ≤ 100 ∧ CrewOk size hs ∧ RuleOk r ∧ (crewM hs).length < 64 ∧ (∀ o ∈ hs, o.name ∈ poolW) ∧ ∀ M', Kept M M' → q (.bl true) M'
def sd_w_racks_right (C : Addr) : SpD := fun ds M q _ => ∃ (size : Int) (r : Rule) (hs : List Host), ds = [ringD C size r hs, crewD hs, tableD size r hs] ∧ 1 ≤ size ∧ size ≤ 100 ∧ CrewOk size hs ∧ RuleOk r ∧ (crewM hs).length < 64 ∧ ∀ M', Kept M M' → q (.bl true) M'
def sd_w_right (C : Addr) : SpD := fun ds M q _ => ∃ (k : Addr), ds = [.cel k] ∧ Kg M k 0 ∧ ∀ M', KeptB k M M' → q (.bl true) M'
def sd_law (C : Addr) : SpD := fun ds M q _ => ∃ (ns : List Int), ds = [.lsf (ns.map D.int)] ∧ ns.length ≤ 63 ∧ (∀ n ∈ ns, Builtin.Int.intBits n ≤ 1048576) ∧ ∀ M', q (.bl true) M'
end L47
set_option maxRecDepth 100000
namespace L47
open PySem PySem.Spec PyProof.Rows L2 DL R
abbrev N_w_dip : List Str := ["_law_well_here", "_law_many", "_law_digit"]
def db_w_dip (C : Addr) : DS :=
    (dSeq (dIfS (dTst (dOp rdGt (dOp rdIx (dVar 0) (dC (.int 0))) (dC (.int 0)))) (dSeq (dAsg (dCB rdDivmod (dCons (dOp rdIx (dVar 0) (dC (.int 0))) (dCons (dVar 1) dNil))) (gdTup 2 (gdCons (gdSub (dVar 0) (dC (.int 0))) (gdCons (gdName 2) gdNil))))
    (dRet (dVar 2))) dNext)
    (dSeq (dAsg (dOp rdAdd (dOp rdIx (dVar 0) (dC (.int 2))) (dC (.int 1))) (gdSub (dVar 0) (dC (.int 2))))
    (dSeq (dAsg (dOp rdMod (dCB rdInt (dCons (dOp rdAdd (dOp rdMul (dOp rdIx (dVar 0) (dC (.int 1))) (dC (.int 48271))) (dOp rdMul (dC (.int 20011)) (dOp rdIx (dVar 0) (dC (.int 2))))) dNil)) (dC (.int 2147483587))) (gdSub (dVar 0) (dC (.int 1))))
    (dRet (dOp rdMod (dCB rdInt (dCons (dOp rdDiv (dOp rdIx (dVar 0) (dC (.int 1))) (dC (.int 4096))) dNil)) (dVar 1))))))
abbrev N_w_parts : List Str := ["_law_words_here", "_law_many", "_law_found", "_law_each", "_law_some"]
def db_w_parts (C : Addr) : DS :=
    (dSeq (dSet 2 (dLst (dCons (dLst dNil) dNil)))
    (dSeq (dFor (dIter (dVar 0)) (gdName 3) (dSet 2 (dOp rdAdd (dVar 2) (dLc (dIter (dVar 2)) (gdName 4) (dTst (dOp rdLt (dCB rdLen (dCons (dVar 4) dNil)) (dVar 1))) (dOp rdAdd (dVar 4) (dLst (dCons (dVar 3) dNil))) [4]))))
    (dRet (dLc (dIter (dVar 2)) (gdName 4) (dTst (dOp rdEq (dCB rdLen (dCons (dVar 4) dNil)) (dVar 1))) (dVar 4) [4]))))
abbrev N_w_words : List Str := ["_law_hosts_here", "_law_kind", "_law_by_name", "_law_words_here", "_law_each", "_law_host"]
def db_w_words (C : Addr) : DS :=
    (dSeq (dSet 2 (dCB rdDictC (dCons (dLc (dIter (dVar 0)) (gdName 5) dYes (dTup (dCons (dOp rdIx (dVar 5) (dC (.int 0))) (dCons (dIf (dTst (dOp rdEq (dVar 1) (dC (.str "hosts")))) (dOp rdIx (dVar 5) (dC (.int 0))) (dOp rdIx (dVar 5) (dC (.int 1)))) dNil))) [5]) dNil)))
    (dSeq (dSet 3 (dLst dNil))
    (dSeq (dLockS 2 (dFor (dIterV (dVar 2)) (gdName 4) (dSet 3 (dIf (dTst (dOp (rdIn false) (dVar 4) (dVar 3))) (dVar 3) (dOp rdAdd (dVar 3) (dLst (dCons (dVar 4) dNil)))))))
    (dRet (dTup (dCons (dVar 2) (dCons (dCB rdSortS (dCons (dVar 3) dNil)) dNil)))))))
abbrev N_is_form_of : List Str := ["value", "forms"]
def db_is_form_of (C : Addr) : DS :=
    (dSeq (dIfS (dOr (dNot (dTru (dIsi "tuple" (dVar 0)))) (dOr (dTst (dOp rdEq (dCB rdLen (dCons (dVar 0) dNil)) (dC (.int 0)))) (dNot (dTru (dIsi "str" (dOp rdIx (dVar 0) (dC (.int 0)))))))) (dRet (dC (.bl false))) dNext)
    (dRet (dOp (rdInT false) (dTup (dCons (dOp rdIx (dVar 0) (dC (.int 0))) (dCons (dCB rdLen (dCons (dVar 0) dNil)) dNil))) (dVar 1))))
abbrev N_w_slots : List Str := ["_law_points", "_law_many"]
def db_w_slots (C : Addr) : DS :=
    (dSeq (dSet 1 (dCB rdMin2 (dCons (dVar 0) (dCons (dC (.int 30)) dNil))))
    (dRet (dLstC (dCons (dListR (dVar 1)) (dCons (dOp rdDiv (dVar 0) (dVar 1)) dNil)))))
abbrev N_w_keepers : List Str := ["_law_rules_here", "_law_hosts_here", "_law_key", "_law_rows", "_law_walk", "_law_racks", "_law_firsts", "_law_each", "_law_rest", "_law_host", "_law_mark", "_law_row", "_law_first"]
def db_w_keepers (C : Addr) : DS :=
    (dSeq (dSet 3 (dLc (dIter (dVar 1)) (gdName 9) dYes (dTup (dCons (dCB rdMinL (dCons (dLc (dIter (dOp rdIx (dVar 9) (dC (.int 2)))) (gdName 10) dYes (dOp rdMod (dCB rdInt (dCons (dOp rdSub (dVar 10) (dVar 2)) dNil)) (dOp rdIx (dVar 0) (dC (.int 0)))) [10]) dNil)) (dCons (dOp rdIx (dVar 9) (dC (.int 0))) dNil))) [9]))
    (dSeq (dSet 4 (dLc (dIter (dCB rdSortP (dCons (dVar 3) dNil))) (gdName 11) dYes (dOp rdIx (dVar 11) (dC (.int 1))) [11]))
    (dSeq (dIfS (dTst (dOp rdEq (dOp rdIx (dVar 0) (dC (.int 2))) (dC (.str "hosts")))) (dRet (dSl rdSl (dVar 4) dNo (dPart (dOp rdIx (dVar 0) (dC (.int 1)))))) dNext)
    (dSeq (dSet 5 (dCB rdDictC (dCons (dLc (dIter (dVar 1)) (gdName 9) dYes (dTup (dCons (dOp rdIx (dVar 9) (dC (.int 0))) (dCons (dOp rdIx (dVar 9) (dC (.int 1))) dNil))) [9]) dNil)))
    (dSeq (dSet 6 (dLstC dNil))
    (dSeq (dFor (dIter (dVar 4)) (gdName 7) (dIfS (dTst (dOp (rdIn true) (dDGet (dVar 5) (dVar 7)) (dLc (dIter (dVar 6)) (gdName 12) dYes (dDGet (dVar 5) (dVar 12)) [12]))) (dExp (dApp (dVar 6) (dCons (dVar 7) dNil))) dNext))
    (dSeq (dSet 6 (dSl rdSl (dVar 6) dNo (dPart (dOp rdIx (dVar 0) (dC (.int 1))))))
    (dSeq (dSet 8 (dLc (dIter (dVar 4)) (gdName 7) (dTst (dOp (rdIn true) (dVar 7) (dVar 6))) (dVar 7) [7]))
    (dRet (dOp rdAdd (dVar 6) (dSl rdSl (dVar 8) dNo (dPart (dOp rdSub (dOp rdIx (dVar 0) (dC (.int 1))) (dCB rdLen (dCons (dVar 6) dNil)))))))))))))))
abbrev N_w_well : List Str := ["_law_script", "_law_turn", "_law_number", "_law_seed", "_law_each"]
def db_w_well (C : Addr) : DS :=
    (dSeq (dSet 2 (dIf (dTst (dOp rdLt (dVar 1) (dCB rdLen (dCons (dVar 0) dNil)))) (dOp rdIx (dVar 0) (dVar 1)) (dOp rdAdd (dOp rdMul (dC (.int 9)) (dVar 1)) (dC (.int 4)))))
    (dSeq (dSet 3 (dOp rdAdd (dC (.int 86028121)) (dOp rdMul (dC (.int 15485)) (dVar 1))))
    (dSeq (dFor (dIter (dOp rdAdd (dLst (dCons (dVar 2) dNil)) (dSl rdSl (dVar 0) dNo (dPart (dC (.int 7)))))) (gdName 4) (dSet 3 (dOp rdMod (dCB rdInt (dCons (dOp rdAdd (dOp rdMul (dVar 3) (dC (.int 69623))) (dVar 4)) dNil)) (dC (.int 2147483587)))))
    (dRet (dLstC (dCons (dIf (dTst (dOp rdGe (dCB rdAbs (dCons (dVar 2) dNil)) (dOp rdPow (dC (.int 10)) (dC (.int 18))))) (dCB rdAbs (dCons (dVar 2) dNil)) (dC (.int 0))) (dCons (dVar 3) (dCons (dC (.int 0)) dNil))))))))
abbrev N_w_least_left : List Str := ["_law_hosts_here", "_law_table_here", "_law_kind", "_law_many", "_law_by_name", "_law_words_here", "_law_found", "_law_fallen", "_law_own", "_law_each"]
def db_w_least_left (C : Addr) : DS :=
    (dSeq (dAsg (dCall 2 (sd_w_words C) (dCons (dVar 0) (dCons (dVar 2) dNil))) (gdTup 2 (gdCons (gdName 4) (gdCons (gdName 5) gdNil))))
    (dSeq (dSet 6 (dLstC dNil))
    (dSeq (dFor (dIter (dCall 2 (sd_w_parts C) (dCons (dVar 5) (dCons (dCB rdMin2 (dCons (dVar 3) (dCons (dCB rdLen (dCons (dVar 5) dNil)) dNil))) dNil)))) (gdName 7) (dFor (dIter (dVar 1)) (gdName 8) (dExp (dApp (dVar 6) (dCons (dCB rdLen (dCons (dLc (dIter (dVar 8)) (gdName 9) (dTst (dOp (rdIn true) (dDGet (dVar 4) (dVar 9)) (dVar 7))) (dVar 9) [9]) dNil)) dNil)))))
    (dRet (dCB rdMinL (dCons (dVar 6) dNil))))))
abbrev N_w_marks : List Str := ["_law_well_here", "_law_slots_here", "_law_many", "_law_found", "_law_wide", "_law_part", "_law_turn", "_law_at"]
def db_w_marks (C : Addr) : DS :=
    (dSeq (dPar2 3 4 (dCons (dLstC dNil) (dCons (dOp rdIx (dVar 1) (dC (.int 1))) dNil)))
    (dSeq (dSet 5 (dCB rdMin2 (dCons (dVar 4) (dCons (dC (.int 1000)) dNil))))
    (dSeq (dFor (dRng1 (dCons (dVar 2) dNil)) (gdName 6) (dSeq (dSet 7 (dCall 2 (sd_w_dip C) (dCons (dVar 0) (dCons (dCB rdLen (dCons (dOp rdIx (dVar 1) (dC (.int 0))) dNil)) dNil))))
    (dSeq (dExp (dApp (dVar 3) (dCons (dOp rdAdd (dOp rdMul (dOp rdIx (dOp rdIx (dVar 1) (dC (.int 0))) (dVar 7)) (dVar 4)) (dOp rdMul (dCall 2 (sd_w_dip C) (dCons (dVar 0) (dCons (dVar 5) dNil))) (dOp rdDiv (dVar 4) (dVar 5)))) dNil)))
    (dAsg (dOp rdAdd (dSl rdSl (dOp rdIx (dVar 1) (dC (.int 0))) dNo (dPart (dVar 7))) (dSl rdSl (dOp rdIx (dVar 1) (dC (.int 0))) (dPart (dOp rdAdd (dVar 7) (dC (.int 1)))) dNo)) (gdSub (dVar 1) (dC (.int 0)))))))
    (dRet (dCB rdTuple (dCons (dCB rdSortI (dCons (dVar 3) dNil)) dNil))))))
abbrev N_w_of : List Str := ["_law_well_here", "_law_menu"]
def db_w_of (C : Addr) : DS :=
    (dRet (dOp rdIx (dVar 1) (dCall 2 (sd_w_dip C) (dCons (dVar 0) (dCons (dCB rdLen (dCons (dVar 1) dNil)) dNil)))))
abbrev N_w_names : List Str := ["_law_well_here", "_law_pool", "_law_at"]
def db_w_names (C : Addr) : DS :=
    (dSeq (dSet 1 (dLst (dCons (dC (.str "a")) (dCons (dC (.str "plan")) (dCons (dC (.str "h2")) (dCons (dC (.str "ab")) (dCons (dC (.str "host")) (dCons (dC (.str "b")) (dCons (dC (.str "z9zzzzzz")) (dCons (dC (.str "settle")) (dCons (dC (.str "c")) (dCons (dC (.str "join")) dNil))))))))))))
    (dSeq (dSet 2 (dCall 2 (sd_w_dip C) (dCons (dVar 0) (dCons (dC (.int 10)) dNil))))
    (dRet (dOp rdAdd (dSl rdSl (dVar 1) (dPart (dVar 2)) dNo) (dSl rdSl (dVar 1) dNo (dPart (dVar 2)))))))
abbrev N_w_table : List Str := ["_law_rules_here", "_law_hosts_here", "_law_key"]
def db_w_table (C : Addr) : DS :=
    (dRet (dLc (dRng1 (dCons (dOp rdIx (dVar 0) (dC (.int 0))) dNil)) (gdName 2) dYes (dCall 3 (sd_w_keepers C) (dCons (dVar 0) (dCons (dVar 1) (dCons (dVar 2) dNil)))) [2]))
abbrev N_is_wish_for_ring : List Str := ["value", "_", "kind", "down", "left"]
def db_is_wish_for_ring (C : Addr) : DS :=
    (dSeq (dIfS (dNot (dTru (dCall 2 (sd_is_form_of C) (dCons (dVar 0) (dCons (dC (.tup [.tup [.str "share", .int 3], .tup [.str "bears", .int 4], .tup [.str "racks", .int 2]])) dNil))))) (dRet (dC (.bl false))) dNext)
    (dSeq (dIfS (dTst (dOp rdEq (dOp rdIx (dVar 0) (dC (.int 0))) (dC (.str "racks")))) (dRet (dCall 3 (sd_is_from_to C) (dCons (dOp rdIx (dVar 0) (dC (.int 1))) (dCons (dC (.int 1)) (dCons (dC (.int 5)) dNil))))) dNext)
    (dSeq (dIfS (dTst (dOp rdEq (dOp rdIx (dVar 0) (dC (.int 0))) (dC (.str "share")))) (dRet (dAndV (dCall 1 (sd_is_name C) (dCons (dOp rdIx (dVar 0) (dC (.int 1))) dNil)) (dAndV (dCall 1 (sd_is_whole C) (dCons (dOp rdIx (dVar 0) (dC (.int 2))) dNil)) (dOp rdGe (dOp rdIx (dVar 0) (dC (.int 2))) (dC (.int 0)))))) dNext)
    (dSeq (dAsg (dVar 0) (gdTup 4 (gdCons (gdName 1) (gdCons (gdName 2) (gdCons (gdName 3) (gdCons (gdName 4) gdNil))))))
    (dRet (dAndV (dCall 2 (sd_is_word_of C) (dCons (dVar 2) (dCons (dC (.tup [.str "hosts", .str "racks"])) dNil))) (dAndV (dCall 3 (sd_is_from_to C) (dCons (dVar 3) (dCons (dC (.int 0)) (dCons (dC (.int 12)) dNil)))) (dCall 3 (sd_is_from_to C) (dCons (dVar 4) (dCons (dC (.int 0)) (dCons (dC (.int 5)) dNil)))))))))))
abbrev N_w_hosts : List Str := ["_law_well_here", "_law_slots_here", "_law_labels", "_law_many", "_law_each", "_law_found", "_law_turn"]
def db_w_hosts (C : Addr) : DS :=
    (dSeq (dSet 5 (dLstC dNil))
    (dSeq (dFor (dRng1 (dCons (dVar 3) dNil)) (gdName 6) (dExp (dApp (dVar 5) (dCons (dTup (dCons (dOp rdIx (dVar 2) (dVar 6)) (dCons (dCall 2 (sd_w_of C) (dCons (dVar 0) (dCons (dLst (dCons (dC (.str "r")) (dCons (dC (.str "r1")) (dCons (dC (.str "a")) dNil)))) dNil))) (dCons (dCall 3 (sd_w_marks C) (dCons (dVar 0) (dCons (dVar 1) (dCons (dOp rdAdd (dC (.int 1)) (dCall 2 (sd_w_dip C) (dCons (dVar 0) (dCons (dVar 4) dNil)))) dNil)))) dNil)))) dNil))))
    (dRet (dCB rdTuple (dCons (dVar 5) dNil)))))
abbrev N_w_rules : List Str := ["_law_well_here", "_law_points", "_law_most", "_law_factor", "_law_spread", "_law_awaited"]
def db_w_rules (C : Addr) : DS :=
    (dSeq (dSet 3 (dOp rdAdd (dC (.int 1)) (dCall 2 (sd_w_dip C) (dCons (dVar 0) (dCons (dVar 2) dNil)))))
    (dSeq (dPar2 4 5 (dCons (dCall 2 (sd_w_of C) (dCons (dVar 0) (dCons (dLst (dCons (dC (.str "hosts")) (dCons (dC (.str "racks")) dNil))) dNil))) (dCons (dCall 2 (sd_w_of C) (dCons (dVar 0) (dCons (dLst (dCons (dC (.str "with")) (dCons (dC (.str "plain")) dNil))) dNil))) dNil)))
    (dRet (dTup (dCons (dVar 1) (dCons (dVar 3) (dCons (dVar 4) (dCons (dOp rdAdd (dC (.int 1)) (dCall 2 (sd_w_dip C) (dCons (dVar 0) (dCons (dVar 3) dNil)))) (dCons (dOp rdAdd (dC (.int 1)) (dCall 2 (sd_w_dip C) (dCons (dVar 0) (dCons (dVar 3) dNil)))) (dCons (dVar 5) dNil))))))))))
abbrev N_w_small : List Str := ["_law_well_here", "_law_least", "_law_most", "_law_many", "_law_each", "_law_rules_here", "_law_slots_here", "_law_labels"]
def db_w_small (C : Addr) : DS :=
    (dSeq (dSet 5 (dCall 3 (sd_w_rules C) (dCons (dVar 0) (dCons (dOp rdAdd (dVar 1) (dCall 2 (sd_w_dip C) (dCons (dVar 0) (dCons (dOp rdAdd (dOp rdSub (dVar 2) (dVar 1)) (dC (.int 1))) dNil)))) (dCons (dC (.int 3)) dNil)))))
    (dSeq (dPar2 6 7 (dCons (dCall 1 (sd_w_slots C) (dCons (dOp rdIx (dVar 5) (dC (.int 0))) dNil)) (dCons (dCall 1 (sd_w_names C) (dCons (dVar 0) dNil)) dNil)))
    (dRet (dTup (dCons (dVar 5) (dCons (dCall 5 (sd_w_hosts C) (dCons (dVar 0) (dCons (dVar 6) (dCons (dVar 7) (dCons (dOp rdAdd (dC (.int 1)) (dCall 2 (sd_w_dip C) (dCons (dVar 0) (dCons (dVar 3) dNil)))) (dCons (dVar 4) dNil)))))) (dCons (dVar 7) (dCons (dVar 6) dNil))))))))
abbrev N_w_made : List Str := ["_law_rules_here", "_law_hosts_here"]
def db_w_made (C : Addr) : DS :=
    (dRet (dMake C 8 (sd_Ring___init__ C) (dCons (dOp rdIx (dVar 0) (dC (.int 0))) (dCons (dOp rdIx (dVar 0) (dC (.int 1))) (dCons (dOp rdIx (dVar 0) (dC (.int 2))) (dCons (dOp rdIx (dVar 0) (dC (.int 3))) (dCons (dOp rdIx (dVar 0) (dC (.int 4))) (dCons (dOp rdIx (dVar 0) (dC (.int 5))) (dCons (dVar 1) dNil)))))))))
abbrev N_thin_key : List Str := ["ring", "many", "rack_of", "first", "_", "keepers", "name", "rack"]
def db_thin_key (C : Addr) : DS :=
    (dSeq (dSet 2 (dDc (dIter (dProp C (sd_Ring_hosts C) (dVar 0))) (gdTup 3 (gdCons (gdName 6) (gdCons (gdName 7) (gdCons (gdName 4) gdNil)))) dYes (dVar 6) (dVar 7) [6, 7, 4]))
    (dSeq (dFor (dIter (dCall 1 (sd_cells C) (dCons (dVar 0) dNil))) (gdTup 3 (gdCons (gdName 3) (gdCons (gdName 4) (gdCons (gdName 5) gdNil)))) (dIfS (dTst (dOp rdLt (dLenSetT (dLc (dIter (dVar 5)) (gdName 6) dYes (dDGet (dVar 2) (dVar 6)) [6])) (dVar 1))) (dRet (dVar 3)) dNext))
    (dRet (dC .non))))
abbrev N_stands : List Str := ["ring", "wish", "_", "kind", "down", "left"]
def db_stands (C : Addr) : DS :=
    (dSeq (dExp (dCall 1 (sd_check_ring C) (dCons (dVar 0) dNil)))
    (dSeq (dIfS (dNot (dTru (dCall 1 (sd_is_wish_for_ring C) (dCons (dVar 1) dNil)))) dNever dNext)
    (dSeq (dIfS (dTst (dOp rdEq (dOp rdIx (dVar 1) (dC (.int 0))) (dC (.str "racks")))) (dRet (dIsN (dCall 2 (sd_thin_key C) (dCons (dVar 0) (dCons (dOp rdIx (dVar 1) (dC (.int 1))) dNil))))) dNext)
    (dSeq (dIfS (dTst (dOp rdEq (dOp rdIx (dVar 1) (dC (.int 0))) (dC (.str "share")))) (dRet (dAndV (dOp (rdInO false C (sd_Ring___contains__ C)) (dOp rdIx (dVar 1) (dC (.int 1))) (dVar 0)) (dOp rdLe (dCall 2 (sd_kept C) (dCons (dVar 0) (dCons (dOp rdIx (dVar 1) (dC (.int 1))) dNil))) (dOp rdIx (dVar 1) (dC (.int 2)))))) dNext)
    (dSeq (dAsg (dVar 1) (gdTup 4 (gdCons (gdName 2) (gdCons (gdName 3) (gdCons (gdName 4) (gdCons (gdName 5) gdNil))))))
    (dRet (dCall 4 (sd_bears C) (dCons (dVar 0) (dCons (dVar 3) (dCons (dVar 4) (dCons (dVar 5) dNil)))))))))))
abbrev N_w_racks_right : List Str := ["_law_ring_here", "_law_hosts_here", "_law_table_here", "_law_by_name", "_law_fewest", "_law_own", "_law_each", "_law_many"]
def db_w_racks_right (C : Addr) : DS :=
    (dSeq (dSet 3 (dOp rdIx (dCall 2 (sd_w_words C) (dCons (dVar 1) (dCons (dC (.str "racks")) dNil))) (dC (.int 0))))
    (dSeq (dSet 4 (dCB rdMinL (dCons (dLc (dIter (dVar 2)) (gdName 5) dYes (dLenSetT (dLc (dIter (dVar 5)) (gdName 6) dYes (dDGet (dVar 3) (dVar 6)) [6])) [5]) dNil)))
    (dRet (dOp rdEq (dCB rdRepr (dCons (dLc (dRng2 (dCons (dC (.int 1)) (dCons (dC (.int 6)) dNil))) (gdName 7) dYes (dCall 2 (sd_stands C) (dCons (dVar 0) (dCons (dTup (dCons (dC (.str "racks")) (dCons (dVar 7) dNil))) dNil))) [7]) dNil)) (dCB rdRepr (dCons (dLc (dRng2 (dCons (dC (.int 1)) (dCons (dC (.int 6)) dNil))) (gdName 7) dYes (dOp rdGe (dVar 4) (dVar 7)) [7]) dNil))))))
abbrev N_w_shares_right : List Str := ["_law_ring_here", "_law_hosts_here", "_law_table_here", "_law_host", "_law_due", "_law_told", "_law_own"]
def db_w_shares_right (C : Addr) : DS :=
    (dSeq (dFor (dIter (dVar 1)) (gdName 3) (dSeq (dSet 4 (dCB rdLen (dCons (dLc (dIter (dVar 2)) (gdName 6) (dTst (dOp (rdIn false) (dOp rdIx (dVar 3) (dC (.int 0))) (dVar 6))) (dVar 6) [6]) dNil)))
    (dSeq (dSet 5 (dLst (dCons (dCall 2 (sd_stands C) (dCons (dVar 0) (dCons (dTup (dCons (dC (.str "share")) (dCons (dOp rdIx (dVar 3) (dC (.int 0))) (dCons (dVar 4) dNil)))) dNil))) (dCons (dCall 2 (sd_stands C) (dCons (dVar 0) (dCons (dTup (dCons (dC (.str "share")) (dCons (dOp rdIx (dVar 3) (dC (.int 0))) (dCons (dC (.int 0)) dNil)))) dNil))) dNil))))
    (dIfS (dOr (dTst (dOp rdNe (dCB rdRepr (dCons (dVar 5) dNil)) (dCB rdRepr (dCons (dLst (dCons (dC (.bl true)) (dCons (dOp rdEq (dVar 4) (dC (.int 0))) dNil))) dNil)))) (dAnd (dTst (dOp rdGt (dVar 4) (dC (.int 0)))) (dTst (dOp rdIsNotB (dCall 2 (sd_stands C) (dCons (dVar 0) (dCons (dTup (dCons (dC (.str "share")) (dCons (dOp rdIx (dVar 3) (dC (.int 0))) (dCons (dOp rdSub (dVar 4) (dC (.int 1))) dNil)))) dNil))) (dC (.bl false)))))) (dRet (dC (.bl false))) dNext))))
    (dSeq (dSet 5 (dLst (dCons (dCall 2 (sd_stands C) (dCons (dVar 0) (dCons (dTup (dCons (dC (.str "share")) (dCons (dC (.str "zz")) (dCons (dC (.int 0)) dNil)))) dNil))) (dCons (dCallP 2 ["wish", "ring"] [1, 0] (sd_stands C) (dCons (dTup (dCons (dC (.str "share")) (dCons (dC (.str "nobody")) (dCons (dOp rdPow (dC (.int 10)) (dC (.int 30))) dNil)))) (dCons (dVar 0) dNil))) dNil))))
    (dRet (dOp rdEq (dCB rdRepr (dCons (dVar 5) dNil)) (dCB rdRepr (dCons (dLst (dCons (dC (.bl false)) (dCons (dC (.bl false)) dNil))) dNil))))))
abbrev N_w_right : List Str := ["_law_well_here", "_law_rules_here", "_law_hosts_here", "_law_labels", "_law_slots_here", "_law_ring_here", "_law_table_here", "_law_kind", "_law_many", "_law_fewest", "_law_told", "_law_rest"]
def db_w_right (C : Addr) : DS :=
    (dSeq (dAsg (dCall 5 (sd_w_small C) (dCons (dVar 0) (dCons (dC (.int 12)) (dCons (dC (.int 20)) (dCons (dC (.int 4)) (dCons (dC (.int 2)) dNil)))))) (gdTup 4 (gdCons (gdName 1) (gdCons (gdName 2) (gdCons (gdName 3) (gdCons (gdName 4) gdNil))))))
    (dSeq (dAsg (dTup (dCons (dCall 2 (sd_w_made C) (dCons (dVar 1) (dCons (dVar 2) dNil))) (dCons (dCall 2 (sd_w_table C) (dCons (dVar 1) (dCons (dVar 2) dNil))) dNil))) (gdTup 2 (gdCons (gdName 5) (gdCons (gdName 6) gdNil))))
    (dSeq (dIfS (dOr (dNot (dTru (dCall 3 (sd_w_shares_right C) (dCons (dVar 5) (dCons (dVar 2) (dCons (dVar 6) dNil)))))) (dNot (dTru (dCall 3 (sd_w_racks_right C) (dCons (dVar 5) (dCons (dVar 2) (dCons (dVar 6) dNil))))))) (dRet (dC (.bl false))) dNext)
    (dSeq (dFor (dIter (dLst (dCons (dC (.str "hosts")) (dCons (dC (.str "racks")) dNil)))) (gdName 7) (dFor (dIter (dLst (dCons (dC (.int 0)) (dCons (dC (.int 1)) (dCons (dC (.int 2)) (dCons (dOp rdAdd (dC (.int 3)) (dCall 2 (sd_w_dip C) (dCons (dVar 0) (dCons (dC (.int 10)) dNil)))) (dCons (dC (.int 12)) dNil))))))) (gdName 8) (dSeq (dSet 9 (dCall 4 (sd_w_least_left C) (dCons (dVar 2) (dCons (dVar 6) (dCons (dVar 7) (dCons (dVar 8) dNil))))))
    (dSeq (dSet 10 (dLc (dRng1 (dCons (dC (.int 6)) dNil)) (gdName 11) dYes (dCall 2 (sd_stands C) (dCons (dVar 5) (dCons (dTup (dCons (dC (.str "bears")) (dCons (dVar 7) (dCons (dVar 8) (dCons (dVar 11) dNil))))) dNil))) [11]))
    (dIfS (dTst (dOp rdNe (dCB rdRepr (dCons (dVar 10) dNil)) (dCB rdRepr (dCons (dLc (dRng1 (dCons (dC (.int 6)) dNil)) (gdName 11) dYes (dOp rdGe (dVar 9) (dVar 11)) [11]) dNil)))) (dRet (dC (.bl false))) dNext)))))
    (dRet (dC (.bl true)))))))
abbrev N_law : List Str := ["_law_script", "_law_turn"]
def db_law (C : Addr) : DS :=
    (dRet (dCB rdAll (dCons (dLc (dRng1 (dCons (dCB rdMax2 (dCons (dC (.int 2)) (dCons (dCB rdMin2 (dCons (dCB rdLen (dCons (dVar 0) dNil)) (dCons (dC (.int 4)) dNil))) dNil))) dNil)) (gdName 1) dYes (dCall 1 (sd_w_right C) (dCons (dCall 2 (sd_w_well C) (dCons (dVar 0) (dCons (dVar 1) dNil))) dNil)) [1]) dNil)))
end L47
set_option maxRecDepth 100000
set_option maxHeartbeats 4000000
namespace L47
open PySem PySem.Spec PyProof.Rows L2 DL R
/-- what the names of the module stand for -/
structure Tx (K : PySem.W.Frag) (mg : Str → Option Value) (C : Addr) : Prop where
  abs : mg "abs" = none
  all : mg "all" = none
  any : mg "any" = none
  bool : mg "bool" = none
  dict : mg "dict" = none
  divmod : mg "divmod" = none
  enumerate : mg "enumerate" = none
  int : mg "int" = none
  isinstance : mg "isinstance" = none
  len : mg "len" = none
  list : mg "list" = none
  max : mg "max" = none
  min : mg "min" = none
  range : mg "range" = none
  repr : mg "repr" = none
  reversed : mg "reversed" = none
  set : mg "set" = none
  sorted : mg "sorted" = none
  str : mg "str" = none
  sum : mg "sum" = none
  tuple : mg "tuple" = none
  zip : mg "zip" = none
  c_DIGITS : ∃ t, mg "DIGITS" = some (.str "0123456789" t)
  c_KINDS : ∃ a, mg "KINDS" = some (.ref a) ∧ ∀ H, SqT K H a [V.str "hosts", V.str "racks"]
  c_LETTERS : ∃ t, mg "LETTERS" = some (.str "abcdefghijklmnopqrstuvwxyz" t)
  c_MOST_FACTOR : ∃ t, mg "MOST_FACTOR" = some (.int 5 t)
  c_MOST_HOSTS : ∃ t, mg "MOST_HOSTS" = some (.int 12 t)
  c_MOST_MARKS : ∃ t, mg "MOST_MARKS" = some (.int 16 t)
  c_MOST_POINTS : ∃ t, mg "MOST_POINTS" = some (.int 1000000000000000000 t)
  c_MOST_SIGNS : ∃ t, mg "MOST_SIGNS" = some (.int 8 t)
  c_PENDINGS : ∃ a, mg "PENDINGS" = some (.ref a) ∧ ∀ H, SqT K H a [V.str "plain", V.str "with"]
  c_RING_WISHES : ∃ a, mg "RING_WISHES" = some (.ref a) ∧ ∀ H, Dn K H (.ref a) (.tup [.tup [.str "share", .int 3], .tup [.str "bears", .int 4], .tup [.str "racks", .int 2]])
  c_SPREADS : ∃ a, mg "SPREADS" = some (.ref a) ∧ ∀ H, SqT K H a [V.str "hosts", V.str "racks"]
  isC : OwnI K C
  g_Ring : mg "Ring" = some (.ref C)
  cRing : Cls K C
  na : ∀ f : Str, f ∈ (["_points", "_factor", "_spread", "_write", "_read_number", "_pending", "_hosts", "__bool__"] : List Str) → NoAttr K C f
theorem pd_cttup {X : Cx} {W : WX} {x : Str} {d : D} {pos : Pos} (h : ∃ a, X.mg x = some (.ref a) ∧ ∀ H, Dn X.K H (.ref a) d) (hg : Gl X x := by rfl) (hd : (x == ("__debug__" : Str)) = false := by decide) : PD X W (.Name x pos) (dC d) := by
  obtain ⟨a, h, hs⟩ := h
  exact pd_of_tC (v := .ref a) (pe_glob hg h rfl hd) fun H => hs H
theorem pd_cint {X : Cx} {W : WX} {x : Str} {i : Int} {pos : Pos} (h : ∃ t, X.mg x = some (.int i t)) (hg : Gl X x := by rfl) (hd : (x == ("__debug__" : Str)) = false := by decide) : PD X W (.Name x pos) (dC (.int i)) := by
  obtain ⟨t, h⟩ := h
  exact pd_of_tC (v := .int i) (pe_glob hg h ⟨t, rfl⟩ hd) fun _ => .int i
theorem pd_cstr {X : Cx} {W : WX} {x i : Str} {pos : Pos} (h : ∃ t, X.mg x = some (.str i t)) (hg : Gl X x := by rfl) (hd : (x == ("__debug__" : Str)) = false := by decide) : PD X W (.Name x pos) (dC (.str i)) := by
  obtain ⟨t, h⟩ := h
  exact pd_of_tC (v := .str i) (pe_glob hg h ⟨t, rfl⟩ hd) fun _ => .str i
theorem pd_ctup {X : Cx} {W : WX} {x : Str} {i j : Str} {pos : Pos} (h : ∃ a, X.mg x = some (.ref a) ∧ ∀ H, SqT X.K H a [V.str i, V.str j]) (hg : Gl X x := by rfl) (hd : (x == ("__debug__" : Str)) = false := by decide) : PD X W (.Name x pos) (dC (.tup [.str i, .str j])) := by
  obtain ⟨a, h, hs⟩ := h
  exact pd_of_tC (v := .ref a) (pe_glob hg h rfl hd) fun H => .tup (hs H) (.cons (.str i) (.cons (.str j) .nil))
theorem hu65_of {A : Around} {k : Nat} (hr : Room k A) : A.units + 65 < cLine := by have := hr.un; omega
theorem hu2_of {A : Around} {k : Nat} (hr : Room k A) : A.units + 200 < cLine := by have := hr.un; omega
abbrev P_w_dip : List Str := ["_law_well_here", "_law_many"]
theorem sc_w_dip : FnScope N_w_dip P_w_dip (defScope s_w_dip) := ⟨rfl, rfl, rfl, by decide +kernel, rfl, by decide +kernel, by decide +kernel⟩
theorem ok_w_dip {P : Program} {w : World} {K : PySem.W.Frag} {mg : Str → Option Value} {base : Heap} {C f : Addr} {fd : FuncData} (T : Tx K mg C) 
    (F : FunD K "_law_dip" "_law_dip" (defArgs s_w_dip) (defBody s_w_dip) (defScope s_w_dip) [] [] f fd) (hk : Keeps N_w_dip 2 (sd_w_dip C) (db_w_dip C)) : FnOk P w K mg base (L2.CX P w) 1 f fd P_w_dip (spOf K 2 (sd_w_dip C)) := 
  okD F sc_w_dip rfl (fun cdv A fr s H E hr => (bd_cons (sd_if (td_cmp opd_gt (pd_ix ixd (vr 0) pd_int (fun _ _ => rfl)) pd_int (nomark _)) (bd_cons (sd_asg (pd_callB (cd_divmod) (by rfl) T.divmod (by decide +kernel) (ad_cons (pd_ix ixd (vr 0) pd_int (fun _ _ => rfl)) (ad_cons (vr 1) ad_nil))) (gd_tup (n := 2) rfl (gds_cons (gd_sub (vr 0) pd_int) (gds_cons (gd_name (i := 2) sc_w_dip.nd) gds_nil))))
      (bd_one (sd_ret (vr 2)))) bd_nil)
      (bd_cons (sd_asg (pd_op opd_add (pd_ix ixd (vr 0) pd_int (fun _ _ => rfl)) pd_int) (gd_sub (vr 0) pd_int))
      (bd_cons (sd_asg (pd_op opd_mod (pd_callTy (cd_int) (by rfl) T.int (by decide +kernel) (ad_cons (pd_op opd_add (pd_op opd_mul (pd_ix ixd (vr 0) pd_int (fun _ _ => rfl)) pd_int) (pd_op opd_mul pd_int (pd_ix ixd (vr 0) pd_int (fun _ _ => rfl)))) ad_nil)) pd_int) (gd_sub (vr 0) pd_int))
      (bd_one (sd_ret (pd_op opd_mod (pd_callTy (cd_int) (by rfl) T.int (by decide +kernel) (ad_cons (pd_op opd_div (pd_ix ixd (vr 0) pd_int (fun _ _ => rfl)) pd_int) ad_nil)) (vr 1)))))))) hk
abbrev P_w_parts : List Str := ["_law_words_here", "_law_many"]
theorem sc_w_parts : FnScope N_w_parts P_w_parts (defScope s_w_parts) := ⟨rfl, rfl, rfl, by decide +kernel, rfl, by decide +kernel, by decide +kernel⟩
theorem ok_w_parts {P : Program} {w : World} {K : PySem.W.Frag} {mg : Str → Option Value} {base : Heap} {C f : Addr} {fd : FuncData} (T : Tx K mg C) 
    (F : FunD K "_law_parts" "_law_parts" (defArgs s_w_parts) (defBody s_w_parts) (defScope s_w_parts) [] [] f fd) (hk : Keeps N_w_parts 2 (sd_w_parts C) (db_w_parts C)) : FnOk P w K mg base (L2.CX P w) 1 f fd P_w_parts (spOf K 2 (sd_w_parts C)) := 
  okD F sc_w_parts rfl (fun cdv A fr s H E hr => (bd_cons (sd_set 2 sc_w_parts.nd (pd_lst (ad_cons (pd_lst ad_nil) ad_nil)))
      (bd_cons (sd_for poF rfl (id_seq (vr 0)) (gd_name (i := 3) sc_w_parts.nd) (bd_one (sd_set 2 sc_w_parts.nd (pd_op opd_add (vr 2) (pd_lc (own := [("_law_some", 4)]) rfl sc_w_parts.nd (id_seq (vr 2)) (blkOk_by (N := N_w_parts) (sc := (defScope s_w_parts)) (by decide +kernel)) (fun _ _ _ _ _ => (gw_name (i := 4) sc_w_parts.nd)) (fun _ _ _ _ _ => (tsd_one (td_cmp opd_lt (pd_callB (cd_len) (by rfl) T.len (by decide +kernel) (ad_cons (vr 4) ad_nil)) (vr 1) (nomark _)))) (fun _ _ _ _ _ => (pd_op opd_add (vr 4) (pd_lst (ad_cons (vr 3) ad_nil)))))))))
      (bd_one (sd_ret (pd_lc (own := [("_law_some", 4)]) rfl sc_w_parts.nd (id_seq (vr 2)) (blkOk_by (N := N_w_parts) (sc := (defScope s_w_parts)) (by decide +kernel)) (fun _ _ _ _ _ => (gw_name (i := 4) sc_w_parts.nd)) (fun _ _ _ _ _ => (tsd_one (td_cmp (opd_eq hr.units) (pd_callB (cd_len) (by rfl) T.len (by decide +kernel) (ad_cons (vr 4) ad_nil)) (vr 1) (nomark _)))) (fun _ _ _ _ _ => (vr 4)))))))) hk
abbrev P_w_words : List Str := ["_law_hosts_here", "_law_kind"]
theorem sc_w_words : FnScope N_w_words P_w_words (defScope s_w_words) := ⟨rfl, rfl, rfl, by decide +kernel, rfl, by decide +kernel, by decide +kernel⟩
theorem ok_w_words {P : Program} {w : World} {K : PySem.W.Frag} {mg : Str → Option Value} {base : Heap} {C f : Addr} {fd : FuncData} (T : Tx K mg C) 
    (F : FunD K "_law_words" "_law_words" (defArgs s_w_words) (defBody s_w_words) (defScope s_w_words) [] [] f fd) (hk : Keeps N_w_words 2 (sd_w_words C) (db_w_words C)) : FnOk P w K mg base (L2.CX P w) 1 f fd P_w_words (spOf K 2 (sd_w_words C)) := 
  okD F sc_w_words rfl (fun cdv A fr s H E hr => (bd_cons (sd_set 2 sc_w_words.nd (pd_callTy (cd_dictC rfl) (by rfl) T.dict (by decide +kernel) (ad_cons (pd_lc (own := [("_law_host", 5)]) rfl sc_w_words.nd (id_seq (vr 0)) (blkOk_by (N := N_w_words) (sc := (defScope s_w_words)) (by decide +kernel)) (fun _ _ _ _ _ => (gw_name (i := 5) sc_w_words.nd)) (fun _ _ _ _ _ => tsd_nil) (fun _ _ _ _ _ => (pd_tup (ad_cons (pd_ix ixd (vr 5) pd_int (fun _ _ => rfl)) (ad_cons (pd_if (td_cmp (opd_eq hr.units) (vr 1) pd_str (nomark _)) (pd_ix ixd (vr 5) pd_int (fun _ _ => rfl)) (pd_ix ixd (vr 5) pd_int (fun _ _ => rfl))) ad_nil))))) ad_nil)))
      (bd_cons (sd_set 3 sc_w_words.nd (pd_lst ad_nil))
      (bd_cons (sd_lock 2 (sd_for poF rfl (id_values (vr 2)) (gd_name (i := 4) sc_w_words.nd) (bd_one (sd_set 3 sc_w_words.nd (pd_if (td_cmp opd_in (vr 4) (vr 3) (by rfl)) (vr 3) (pd_op opd_add (vr 3) (pd_lst (ad_cons (vr 4) ad_nil))))))))
      (bd_one (sd_ret (pd_tup (ad_cons (vr 2) (ad_cons (pd_callB (cd_sortS) (by rfl) T.sorted (by decide +kernel) (ad_cons (vr 3) ad_nil)) ad_nil))))))))) hk
abbrev P_is_ascending : List Str := ["row"]
theorem sc_is_ascending : FnScope N_is_ascending P_is_ascending (defScope s_is_ascending) := ⟨rfl, rfl, rfl, by decide +kernel, rfl, by decide +kernel, by decide +kernel⟩
theorem ok_is_ascending {P : Program} {w : World} {K : PySem.W.Frag} {mg : Str → Option Value} {base : Heap} {C f : Addr} {fd : FuncData} (T : Tx K mg C) 
    (F : FunD K "is_ascending" "is_ascending" (defArgs s_is_ascending) (defBody s_is_ascending) (defScope s_is_ascending) [] [] f fd) (hk : Keeps N_is_ascending 1 (sd_is_ascending C) (db_is_ascending C)) : FnOk P w K mg base (L2.CX P w) 1 f fd P_is_ascending (spOf K 1 (sd_is_ascending C)) := 
  okD F sc_is_ascending rfl (fun cdv A fr s H E hr => (bd_one (sd_ret (pd_callB (cd_all rfl) (by rfl) T.all (by decide +kernel) (ad_cons (pd_lc (own := [("one", 1), ("other", 2)]) rfl sc_is_ascending.nd (id_zip (by rfl) T.zip (ad_cons (vr 0) (ad_cons (pd_slice sld (vr 0) (od_some pd_int) od_no) ad_nil))) (blkOk_by (N := N_is_ascending) (sc := (defScope s_is_ascending)) (by decide +kernel)) (fun _ _ _ _ _ => (gw_tup (n := 2) rfl (gws_cons (gw_name (i := 1) sc_is_ascending.nd) (gws_cons (gw_name (i := 2) sc_is_ascending.nd) gws_nil)))) (fun _ _ _ _ _ => tsd_nil) (fun _ _ _ _ _ => (pd_cmp opd_lt (vr 1) (vr 2) (nomark _)))) ad_nil))))) hk
abbrev P_is_whole : List Str := ["value"]
theorem sc_is_whole : FnScope N_is_whole P_is_whole (defScope s_is_whole) := ⟨rfl, rfl, rfl, by decide +kernel, rfl, by decide +kernel, by decide +kernel⟩
theorem ok_is_whole {P : Program} {w : World} {K : PySem.W.Frag} {mg : Str → Option Value} {base : Heap} {C f : Addr} {fd : FuncData} (T : Tx K mg C) 
    (F : FunD K "is_whole" "is_whole" (defArgs s_is_whole) (defBody s_is_whole) (defScope s_is_whole) [] [] f fd) (hk : Keeps N_is_whole 1 (sd_is_whole C) (db_is_whole C)) : FnOk P w K mg base (L2.CX P w) 1 f fd P_is_whole (spOf K 1 (sd_is_whole C)) := 
  okD F sc_is_whole rfl (fun cdv A fr s H E hr => (bd_one (sd_ret (pd_and (pd_isi (vr 0) T.isinstance T.int (by decide +kernel)) (pd_one (pd_not (pd_isi (vr 0) T.isinstance T.bool (by decide +kernel)))))))) hk
abbrev P_is_name : List Str := ["value"]
theorem sc_is_name : FnScope N_is_name P_is_name (defScope s_is_name) := ⟨rfl, rfl, rfl, by decide +kernel, rfl, by decide +kernel, by decide +kernel⟩
theorem ok_is_name {P : Program} {w : World} {K : PySem.W.Frag} {mg : Str → Option Value} {base : Heap} {C f : Addr} {fd : FuncData} (T : Tx K mg C) 
    (F : FunD K "is_name" "is_name" (defArgs s_is_name) (defBody s_is_name) (defScope s_is_name) [] [] f fd) (hk : Keeps N_is_name 1 (sd_is_name C) (db_is_name C)) : FnOk P w K mg base (L2.CX P w) 1 f fd P_is_name (spOf K 1 (sd_is_name C)) := 
  okD F sc_is_name rfl (fun cdv A fr s H E hr => (bd_cons (sd_if (td_w (wd_or (td_not (td_tru (pd_isi (vr 0) T.isinstance T.str (by decide +kernel)))) (wd_or1 (td_not (td_chn opd_le opd_le pd_int (pd_callB (cd_len) (by rfl) T.len (by decide +kernel) (ad_cons (vr 0) ad_nil)) (pd_cint T.c_MOST_SIGNS)))))) (bd_one (sd_ret pd_bl)) bd_nil)
      (bd_one (sd_ret (pd_and (pd_cmp opd_in (pd_ix ixd (vr 0) pd_int (fun _ _ => rfl)) (pd_cstr T.c_LETTERS) (by rfl)) (pd_one (pd_callB (cd_all rfl) (by rfl) T.all (by decide +kernel) (ad_cons (pd_lc (own := [("sign", 1)]) rfl sc_is_name.nd (id_str (vr 0)) (blkOk_by (N := N_is_name) (sc := (defScope s_is_name)) (by decide +kernel)) (fun _ _ _ _ _ => (gw_name (i := 1) sc_is_name.nd)) (fun _ _ _ _ _ => tsd_nil) (fun _ _ _ _ _ => (pd_cmp opd_in (vr 1) (pd_op opd_add (pd_cstr T.c_LETTERS) (pd_cstr T.c_DIGITS)) (by rfl)))) ad_nil)))))))) hk
abbrev P_is_word_of : List Str := ["value", "words"]
theorem sc_is_word_of : FnScope N_is_word_of P_is_word_of (defScope s_is_word_of) := ⟨rfl, rfl, rfl, by decide +kernel, rfl, by decide +kernel, by decide +kernel⟩
theorem ok_is_word_of {P : Program} {w : World} {K : PySem.W.Frag} {mg : Str → Option Value} {base : Heap} {C f : Addr} {fd : FuncData} (T : Tx K mg C) 
    (F : FunD K "is_word_of" "is_word_of" (defArgs s_is_word_of) (defBody s_is_word_of) (defScope s_is_word_of) [] [] f fd) (hk : Keeps N_is_word_of 2 (sd_is_word_of C) (db_is_word_of C)) : FnOk P w K mg base (L2.CX P w) 1 f fd P_is_word_of (spOf K 2 (sd_is_word_of C)) := 
  okD F sc_is_word_of rfl (fun cdv A fr s H E hr => (bd_one (sd_ret (pd_and (pd_isi (vr 0) T.isinstance T.str (by decide +kernel)) (pd_one (pd_cmp opd_in (vr 0) (vr 1) (by rfl))))))) hk
abbrev P_all_marks : List Str := ["hosts"]
theorem sc_all_marks : FnScope N_all_marks P_all_marks (defScope s_all_marks) := ⟨rfl, rfl, rfl, by decide +kernel, rfl, by decide +kernel, by decide +kernel⟩
theorem ok_all_marks {P : Program} {w : World} {K : PySem.W.Frag} {mg : Str → Option Value} {base : Heap} {C f : Addr} {fd : FuncData} (T : Tx K mg C) 
    (F : FunD K "all_marks" "all_marks" (defArgs s_all_marks) (defBody s_all_marks) (defScope s_all_marks) [] [] f fd) (hk : Keeps N_all_marks 1 (sd_all_marks C) (db_all_marks C)) : FnOk P w K mg base (L2.CX P w) 1 f fd P_all_marks (spOf K 1 (sd_all_marks C)) := 
  okD F sc_all_marks rfl (fun cdv A fr s H E hr => (bd_one (sd_ret (pd_sortSet rfl (by rfl) T.sorted (by rfl) T.set (pd_lc2 (own := [("_", 1), ("_", 1), ("marks", 2), ("mark", 3)]) (vs1 := [3]) rfl sc_all_marks.nd (id_seq (vr 0)) (blkOk_by (N := N_all_marks) (sc := (defScope s_all_marks)) (by decide +kernel)) (by decide) (fun _ _ _ _ _ => (gw_tup (n := 3) rfl (gws_cons (gw_name (i := 1) sc_all_marks.nd) (gws_cons (gw_name (i := 1) sc_all_marks.nd) (gws_cons (gw_name (i := 2) sc_all_marks.nd) gws_nil))))) (fun _ _ _ _ _ => tsd_nil) (fun _ _ _ _ _ => (id_seq (vr 2))) (fun _ _ _ _ _ => (gw_name (i := 3) sc_all_marks.nd)) (fun _ _ _ _ _ => tsd_nil) (fun _ _ _ _ _ => (vr 3))))))) hk
abbrev P_arcs_up_to : List Str := ["marks", "points"]
theorem sc_arcs_up_to : FnScope N_arcs_up_to P_arcs_up_to (defScope s_arcs_up_to) := ⟨rfl, rfl, rfl, by decide +kernel, rfl, by decide +kernel, by decide +kernel⟩
theorem ok_arcs_up_to {P : Program} {w : World} {K : PySem.W.Frag} {mg : Str → Option Value} {base : Heap} {C f : Addr} {fd : FuncData} (T : Tx K mg C) 
    (F : FunD K "arcs_up_to" "arcs_up_to" (defArgs s_arcs_up_to) (defBody s_arcs_up_to) (defScope s_arcs_up_to) [] [] f fd) (hk : Keeps N_arcs_up_to 2 (sd_arcs_up_to C) (db_arcs_up_to C)) : FnOk P w K mg base (L2.CX P w) 1 f fd P_arcs_up_to (spOf K 2 (sd_arcs_up_to C)) := 
  okD F sc_arcs_up_to rfl (fun cdv A fr s H E hr => (bd_cons (sd_set 2 sc_arcs_up_to.nd (pd_op opd_add (pd_slice sld (vr 0) (od_some (pd_un und_neg pd_int)) od_no) (pd_slice sld (vr 0) od_no (od_some (pd_un und_neg pd_int)))))
      (bd_one (sd_ret (pd_lc (own := [("before", 3), ("mark", 4)]) rfl sc_arcs_up_to.nd (id_zip (by rfl) T.zip (ad_cons (vr 2) (ad_cons (vr 0) ad_nil))) (blkOk_by (N := N_arcs_up_to) (sc := (defScope s_arcs_up_to)) (by decide +kernel)) (fun _ _ _ _ _ => (gw_tup (n := 2) rfl (gws_cons (gw_name (i := 3) sc_arcs_up_to.nd) (gws_cons (gw_name (i := 4) sc_arcs_up_to.nd) gws_nil)))) (fun _ _ _ _ _ => tsd_nil) (fun _ _ _ _ _ => (pd_tup (ad_cons (pd_op opd_mod (pd_op opd_add (vr 3) pd_int) (vr 1)) (ad_cons (pd_op opd_add (pd_op opd_mod (pd_op opd_sub (pd_op opd_sub (vr 4) (vr 3)) pd_int) (vr 1)) pd_int) ad_nil))))))))) hk
abbrev P_check_ring : List Str := ["ring"]
theorem sc_check_ring : FnScope N_check_ring P_check_ring (defScope s_check_ring) := ⟨rfl, rfl, rfl, by decide +kernel, rfl, by decide +kernel, by decide +kernel⟩
theorem ok_check_ring {P : Program} {w : World} {K : PySem.W.Frag} {mg : Str → Option Value} {base : Heap} {C f : Addr} {fd : FuncData} (T : Tx K mg C) 
    (F : FunD K "check_ring" "check_ring" (defArgs s_check_ring) (defBody s_check_ring) (defScope s_check_ring) [] [] f fd) (hk : Keeps N_check_ring 1 (sd_check_ring C) (db_check_ring C)) : FnOk P w K mg base (L2.CX P w) 1 f fd P_check_ring (spOf K 1 (sd_check_ring C)) := 
  okD F sc_check_ring rfl (fun cdv A fr s H E hr => (bd_one (sd_if (td_not (td_tru (pd_isiC (vr 0) T.isC T.isinstance T.g_Ring))) (bd_one sd_never) bd_nil))) hk
abbrev P_Ring_hosts : List Str := ["self"]
theorem sc_Ring_hosts : FnScope N_Ring_hosts P_Ring_hosts (defScope s_Ring_hosts) := ⟨rfl, rfl, rfl, by decide +kernel, rfl, by decide +kernel, by decide +kernel⟩
theorem ok_Ring_hosts {P : Program} {w : World} {K : PySem.W.Frag} {mg : Str → Option Value} {base : Heap} {C f : Addr} {fd : FuncData} (T : Tx K mg C) 
    (F : FunD K "hosts" "Ring.hosts" (defArgs s_Ring_hosts) (defBody s_Ring_hosts) (defScope s_Ring_hosts) [] [] f fd) (hk : Keeps N_Ring_hosts 1 (sd_Ring_hosts C) (db_Ring_hosts C)) : FnOk P w K mg base (L2.CX P w) 1 f fd P_Ring_hosts (spOf K 1 (sd_Ring_hosts C)) := 
  okD F sc_Ring_hosts rfl (fun cdv A fr s H E hr => (bd_one (sd_ret (pd_fld (vr 0) T.cRing (T.na "_hosts" (by decide)))))) hk
abbrev P_Ring_factor : List Str := ["self"]
theorem sc_Ring_factor : FnScope N_Ring_factor P_Ring_factor (defScope s_Ring_factor) := ⟨rfl, rfl, rfl, by decide +kernel, rfl, by decide +kernel, by decide +kernel⟩
theorem ok_Ring_factor {P : Program} {w : World} {K : PySem.W.Frag} {mg : Str → Option Value} {base : Heap} {C f : Addr} {fd : FuncData} (T : Tx K mg C) 
    (F : FunD K "factor" "Ring.factor" (defArgs s_Ring_factor) (defBody s_Ring_factor) (defScope s_Ring_factor) [] [] f fd) (hk : Keeps N_Ring_factor 1 (sd_Ring_factor C) (db_Ring_factor C)) : FnOk P w K mg base (L2.CX P w) 1 f fd P_Ring_factor (spOf K 1 (sd_Ring_factor C)) := 
  okD F sc_Ring_factor rfl (fun cdv A fr s H E hr => (bd_one (sd_ret (pd_fld (vr 0) T.cRing (T.na "_factor" (by decide)))))) hk
abbrev P_Ring_spread : List Str := ["self"]
theorem sc_Ring_spread : FnScope N_Ring_spread P_Ring_spread (defScope s_Ring_spread) := ⟨rfl, rfl, rfl, by decide +kernel, rfl, by decide +kernel, by decide +kernel⟩
theorem ok_Ring_spread {P : Program} {w : World} {K : PySem.W.Frag} {mg : Str → Option Value} {base : Heap} {C f : Addr} {fd : FuncData} (T : Tx K mg C) 
    (F : FunD K "spread" "Ring.spread" (defArgs s_Ring_spread) (defBody s_Ring_spread) (defScope s_Ring_spread) [] [] f fd) (hk : Keeps N_Ring_spread 1 (sd_Ring_spread C) (db_Ring_spread C)) : FnOk P w K mg base (L2.CX P w) 1 f fd P_Ring_spread (spOf K 1 (sd_Ring_spread C)) := 
  okD F sc_Ring_spread rfl (fun cdv A fr s H E hr => (bd_one (sd_ret (pd_fld (vr 0) T.cRing (T.na "_spread" (by decide)))))) hk
abbrev P_ahead : List Str := ["name", "walk"]
theorem sc_ahead : FnScope N_ahead P_ahead (defScope s_ahead) := ⟨rfl, rfl, rfl, by decide +kernel, rfl, by decide +kernel, by decide +kernel⟩
theorem ok_ahead {P : Program} {w : World} {K : PySem.W.Frag} {mg : Str → Option Value} {base : Heap} {C f : Addr} {fd : FuncData} (T : Tx K mg C) 
    (F : FunD K "ahead" "ahead" (defArgs s_ahead) (defBody s_ahead) (defScope s_ahead) [] [] f fd) (hk : Keeps N_ahead 2 (sd_ahead C) (db_ahead C)) : FnOk P w K mg base (L2.CX P w) 1 f fd P_ahead (spOf K 2 (sd_ahead C)) := 
  okD F sc_ahead rfl (fun cdv A fr s H E hr => (bd_one (sd_ret (pd_op opd_add (pd_tup (ad_cons (vr 0) ad_nil)) (pd_callTy (cd_tuple) (by rfl) T.tuple (by decide +kernel) (ad_cons (pd_lc (own := [("other", 2)]) rfl sc_ahead.nd (id_seq (vr 1)) (blkOk_by (N := N_ahead) (sc := (defScope s_ahead)) (by decide +kernel)) (fun _ _ _ _ _ => (gw_name (i := 2) sc_ahead.nd)) (fun _ _ _ _ _ => (tsd_one (td_cmp (opd_ne hr.units) (vr 2) (vr 0) (nomark _)))) (fun _ _ _ _ _ => (vr 2))) ad_nil)))))) hk
abbrev P_Ring_points : List Str := ["self"]
theorem sc_Ring_points : FnScope N_Ring_points P_Ring_points (defScope s_Ring_points) := ⟨rfl, rfl, rfl, by decide +kernel, rfl, by decide +kernel, by decide +kernel⟩
theorem ok_Ring_points {P : Program} {w : World} {K : PySem.W.Frag} {mg : Str → Option Value} {base : Heap} {C f : Addr} {fd : FuncData} (T : Tx K mg C) 
    (F : FunD K "points" "Ring.points" (defArgs s_Ring_points) (defBody s_Ring_points) (defScope s_Ring_points) [] [] f fd) (hk : Keeps N_Ring_points 1 (sd_Ring_points C) (db_Ring_points C)) : FnOk P w K mg base (L2.CX P w) 1 f fd P_Ring_points (spOf K 1 (sd_Ring_points C)) := 
  okD F sc_Ring_points rfl (fun cdv A fr s H E hr => (bd_one (sd_ret (pd_fld (vr 0) T.cRing (T.na "_points" (by decide)))))) hk
abbrev P_Ring__way : List Str := ["self", "point", "marks"]
theorem sc_Ring__way : FnScope N_Ring__way P_Ring__way (defScope s_Ring__way) := ⟨rfl, rfl, rfl, by decide +kernel, rfl, by decide +kernel, by decide +kernel⟩
theorem ok_Ring__way {P : Program} {w : World} {K : PySem.W.Frag} {mg : Str → Option Value} {base : Heap} {C f : Addr} {fd : FuncData} (T : Tx K mg C) 
    (F : FunD K "_way" "Ring._way" (defArgs s_Ring__way) (defBody s_Ring__way) (defScope s_Ring__way) [] [] f fd) (hk : Keeps N_Ring__way 3 (sd_Ring__way C) (db_Ring__way C)) : FnOk P w K mg base (L2.CX P w) 1 f fd P_Ring__way (spOf K 3 (sd_Ring__way C)) := 
  okD F sc_Ring__way rfl (fun cdv A fr s H E hr => (bd_one (sd_ret (pd_callB (cd_minL rfl) (by rfl) T.min (by decide +kernel) (ad_cons (pd_lc (own := [("mark", 3)]) rfl sc_Ring__way.nd (id_seq (vr 2)) (blkOk_by (N := N_Ring__way) (sc := (defScope s_Ring__way)) (by decide +kernel)) (fun _ _ _ _ _ => (gw_name (i := 3) sc_Ring__way.nd)) (fun _ _ _ _ _ => tsd_nil) (fun _ _ _ _ _ => (pd_op opd_mod (pd_op opd_sub (vr 3) (vr 1)) (pd_fld (vr 0) T.cRing (T.na "_points" (by decide)))))) ad_nil))))) hk
abbrev P_worst_fall : List Str := ["homes", "down"]
theorem sc_worst_fall : FnScope N_worst_fall P_worst_fall (defScope s_worst_fall) := ⟨rfl, rfl, rfl, by decide +kernel, rfl, by decide +kernel, by decide +kernel⟩
theorem ok_worst_fall {P : Program} {w : World} {K : PySem.W.Frag} {mg : Str → Option Value} {base : Heap} {C f : Addr} {fd : FuncData} (T : Tx K mg C) 
    (F : FunD K "worst_fall" "worst_fall" (defArgs s_worst_fall) (defBody s_worst_fall) (defScope s_worst_fall) [] [] f fd) (hk : Keeps N_worst_fall 2 (sd_worst_fall C) (db_worst_fall C)) : FnOk P w K mg base (L2.CX P w) 1 f fd P_worst_fall (spOf K 2 (sd_worst_fall C)) := 
  okD F sc_worst_fall rfl (fun cdv A fr s H E hr => (bd_cons (sd_setDc 2 (own := [("home", 4)]) rfl sc_worst_fall.nd (sw_trueD rfl rfl rfl (by decide +kernel)) (id_seq (vr 0)) (blkOk_by (N := N_worst_fall) (sc := (defScope s_worst_fall)) (by decide +kernel)) (fun _ _ _ _ _ => (gw_name (i := 4) sc_worst_fall.nd)) (fun _ _ _ _ _ => tsd_nil) (fun _ _ _ _ _ => (vr 4)) (fun _ _ _ _ _ => (pd_count (vr 0) (ad_cons (vr 4) ad_nil))))
      (bd_cons (sd_set 3 sc_worst_fall.nd (pd_callB (cd_sortPT) (by rfl) T.sorted (by decide +kernel) (ad_cons (pd_lock 2 (pd_lc (own := [("home", 4), ("many", 5)]) rfl sc_worst_fall.nd (id_items (vr 2)) (blkOk_by (N := N_worst_fall) (sc := (defScope s_worst_fall)) (by decide +kernel)) (fun _ _ _ _ _ => (gw_tup (n := 2) rfl (gws_cons (gw_name (i := 4) sc_worst_fall.nd) (gws_cons (gw_name (i := 5) sc_worst_fall.nd) gws_nil)))) (fun _ _ _ _ _ => tsd_nil) (fun _ _ _ _ _ => (pd_tup (ad_cons (pd_un und_neg (vr 5)) (ad_cons (vr 4) ad_nil)))))) ad_nil)))
      (bd_one (sd_ret (pd_callTy (cd_tuple) (by rfl) T.tuple (by decide +kernel) (ad_cons (pd_callB (cd_sortS) (by rfl) T.sorted (by decide +kernel) (ad_cons (pd_lc (own := [("_", 6), ("home", 4)]) rfl sc_worst_fall.nd (id_seq (pd_slice sld (vr 3) od_no (od_some (vr 1)))) (blkOk_by (N := N_worst_fall) (sc := (defScope s_worst_fall)) (by decide +kernel)) (fun _ _ _ _ _ => (gw_tup (n := 2) rfl (gws_cons (gw_name (i := 6) sc_worst_fall.nd) (gws_cons (gw_name (i := 4) sc_worst_fall.nd) gws_nil)))) (fun _ _ _ _ _ => tsd_nil) (fun _ _ _ _ _ => (vr 4))) ad_nil)) ad_nil))))))) hk
abbrev P_Ring___getitem__ : List Str := ["self", "at"]
theorem sc_Ring___getitem__ : FnScope N_Ring___getitem__ P_Ring___getitem__ (defScope s_Ring___getitem__) := ⟨rfl, rfl, rfl, by decide +kernel, rfl, by decide +kernel, by decide +kernel⟩
theorem ok_Ring___getitem__ {P : Program} {w : World} {K : PySem.W.Frag} {mg : Str → Option Value} {base : Heap} {C f : Addr} {fd : FuncData} (T : Tx K mg C) 
    (F : FunD K "__getitem__" "Ring.__getitem__" (defArgs s_Ring___getitem__) (defBody s_Ring___getitem__) (defScope s_Ring___getitem__) [] [] f fd) (hk : Keeps N_Ring___getitem__ 2 (sd_Ring___getitem__ C) (db_Ring___getitem__ C)) : FnOk P w K mg base (L2.CX P w) 1 f fd P_Ring___getitem__ (spOf K 2 (sd_Ring___getitem__ C)) := 
  okD F sc_Ring___getitem__ rfl (fun cdv A fr s H E hr => (bd_cons (sd_for poF rfl (id_seq (pd_fld (vr 0) T.cRing (T.na "_hosts" (by decide)))) (gd_tup (n := 3) rfl (gds_cons (gd_name (i := 2) sc_Ring___getitem__.nd) (gds_cons (gd_name (i := 3) sc_Ring___getitem__.nd) (gds_cons (gd_name (i := 4) sc_Ring___getitem__.nd) gds_nil)))) (bd_one (sd_if (td_w (wd_and (td_tru (pd_isi (vr 1) T.isinstance T.str (by decide +kernel))) (wd_and1 (td_cmp (opd_eq hr.units) (vr 1) (vr 2) (nomark _))))) (bd_one (sd_ret (pd_tup (ad_cons (vr 3) (ad_cons (vr 4) ad_nil))))) bd_nil)))
      (bd_one sd_never))) hk
abbrev P_is_form_of : List Str := ["value", "forms"]
theorem sc_is_form_of : FnScope N_is_form_of P_is_form_of (defScope s_is_form_of) := ⟨rfl, rfl, rfl, by decide +kernel, rfl, by decide +kernel, by decide +kernel⟩
theorem ok_is_form_of {P : Program} {w : World} {K : PySem.W.Frag} {mg : Str → Option Value} {base : Heap} {C f : Addr} {fd : FuncData} (T : Tx K mg C) 
    (F : FunD K "is_form_of" "is_form_of" (defArgs s_is_form_of) (defBody s_is_form_of) (defScope s_is_form_of) [] [] f fd) (hk : Keeps N_is_form_of 2 (sd_is_form_of C) (db_is_form_of C)) : FnOk P w K mg base (L2.CX P w) 1 f fd P_is_form_of (spOf K 2 (sd_is_form_of C)) := 
  okD F sc_is_form_of rfl (fun cdv A fr s H E hr => (bd_cons (sd_if (td_w (wd_or (td_not (td_tru (pd_isi (vr 0) T.isinstance T.tuple (by decide +kernel)))) (wd_or (td_cmp (opd_eq hr.units) (pd_callB (cd_len) (by rfl) T.len (by decide +kernel) (ad_cons (vr 0) ad_nil)) pd_int (nomark _)) (wd_or1 (td_not (td_tru (pd_isi (pd_ix ixd (vr 0) pd_int (fun _ _ => rfl)) T.isinstance T.str (by decide +kernel)))))))) (bd_one (sd_ret pd_bl)) bd_nil)
      (bd_one (sd_ret (pd_cmp (opd_inT (hu65_of hr)) (pd_tup (ad_cons (pd_ix ixd (vr 0) pd_int (fun _ _ => rfl)) (ad_cons (pd_callB (cd_len) (by rfl) T.len (by decide +kernel) (ad_cons (vr 0) ad_nil)) ad_nil))) (vr 1) (by rfl)))))) hk
abbrev P_Ring_names : List Str := ["self"]
theorem sc_Ring_names : FnScope N_Ring_names P_Ring_names (defScope s_Ring_names) := ⟨rfl, rfl, rfl, by decide +kernel, rfl, by decide +kernel, by decide +kernel⟩
theorem ok_Ring_names {P : Program} {w : World} {K : PySem.W.Frag} {mg : Str → Option Value} {base : Heap} {C f : Addr} {fd : FuncData} (T : Tx K mg C) 
    (F : FunD K "names" "Ring.names" (defArgs s_Ring_names) (defBody s_Ring_names) (defScope s_Ring_names) [] [] f fd) (hk : Keeps N_Ring_names 1 (sd_Ring_names C) (db_Ring_names C)) : FnOk P w K mg base (L2.CX P w) 1 f fd P_Ring_names (spOf K 1 (sd_Ring_names C)) := 
  okD F sc_Ring_names rfl (fun cdv A fr s H E hr => (bd_one (sd_ret (pd_callTy (cd_tuple) (by rfl) T.tuple (by decide +kernel) (ad_cons (pd_callB (cd_sortS) (by rfl) T.sorted (by decide +kernel) (ad_cons (pd_lc (own := [("host", 1)]) rfl sc_Ring_names.nd (id_seq (pd_fld (vr 0) T.cRing (T.na "_hosts" (by decide)))) (blkOk_by (N := N_Ring_names) (sc := (defScope s_Ring_names)) (by decide +kernel)) (fun _ _ _ _ _ => (gw_name (i := 1) sc_Ring_names.nd)) (fun _ _ _ _ _ => tsd_nil) (fun _ _ _ _ _ => (pd_ix ixd (vr 1) pd_int (fun _ _ => rfl)))) ad_nil)) ad_nil))))) hk
abbrev P_w_slots : List Str := ["_law_points"]
theorem sc_w_slots : FnScope N_w_slots P_w_slots (defScope s_w_slots) := ⟨rfl, rfl, rfl, by decide +kernel, rfl, by decide +kernel, by decide +kernel⟩
theorem ok_w_slots {P : Program} {w : World} {K : PySem.W.Frag} {mg : Str → Option Value} {base : Heap} {C f : Addr} {fd : FuncData} (T : Tx K mg C) 
    (F : FunD K "_law_slots" "_law_slots" (defArgs s_w_slots) (defBody s_w_slots) (defScope s_w_slots) [] [] f fd) (hk : Keeps N_w_slots 1 (sd_w_slots C) (db_w_slots C)) : FnOk P w K mg base (L2.CX P w) 1 f fd P_w_slots (spOf K 1 (sd_w_slots C)) := 
  okD F sc_w_slots rfl (fun cdv A fr s H E hr => (bd_cons (sd_set 1 sc_w_slots.nd (pd_callB (cd_min2 rfl) (by rfl) T.min (by decide +kernel) (ad_cons (vr 0) (ad_cons pd_int ad_nil))))
      (bd_one (sd_ret (pd_lstC (ad_cons (pd_listR rfl (by rfl) T.list (by rfl) T.range (vr 1)) (ad_cons (pd_op opd_div (vr 0) (vr 1)) ad_nil))))))) hk
abbrev P_w_keepers : List Str := ["_law_rules_here", "_law_hosts_here", "_law_key"]
theorem sc_w_keepers : FnScope N_w_keepers P_w_keepers (defScope s_w_keepers) := ⟨rfl, rfl, rfl, by decide +kernel, rfl, by decide +kernel, by decide +kernel⟩
theorem ok_w_keepers {P : Program} {w : World} {K : PySem.W.Frag} {mg : Str → Option Value} {base : Heap} {C f : Addr} {fd : FuncData} (T : Tx K mg C) 
    (F : FunD K "_law_keepers" "_law_keepers" (defArgs s_w_keepers) (defBody s_w_keepers) (defScope s_w_keepers) [] [] f fd) (hk : Keeps N_w_keepers 3 (sd_w_keepers C) (db_w_keepers C)) : FnOk P w K mg base (L2.CX P w) 1 f fd P_w_keepers (spOf K 3 (sd_w_keepers C)) := 
  okD F sc_w_keepers rfl (fun cdv A fr s H E hr => (bd_cons (sd_setLc 3 (own := [("_law_host", 9)]) rfl sc_w_keepers.nd (sw_true rfl rfl rfl (by decide +kernel)) (id_seq (vr 1)) (blkOk_by (N := N_w_keepers) (sc := (defScope s_w_keepers)) (by decide +kernel)) (fun _ _ _ _ _ => (gw_name (i := 9) sc_w_keepers.nd)) (fun _ _ _ _ _ => tsd_nil) (fun _ _ _ _ _ => (pd_tup (ad_cons (pd_callB (cd_minL rfl) (by rfl) T.min (by decide +kernel) (ad_cons (pd_lc (own := [("_law_mark", 10)]) rfl sc_w_keepers.nd (id_seq (pd_ix ixd (vr 9) pd_int (fun _ _ => rfl))) (blkOk_by (N := N_w_keepers) (sc := { kind := .function, names := [(".0", .local), ("_law_host", .local), ("min", .globalImplicit), ("_law_key", .cell), ("_law_rules_here", .cell)], isGenerator := false, isCoroutine := false }) (by decide +kernel)) (fun _ _ _ _ _ => (gw_name (i := 10) sc_w_keepers.nd)) (fun _ _ _ _ _ => tsd_nil) (fun _ _ _ _ _ => (pd_op opd_mod (pd_callTy (cd_int) (by rfl) T.int (by decide +kernel) (ad_cons (pd_op opd_sub (vr 10) (vr 2)) ad_nil)) (pd_ix ixd (vr 0) pd_int (fun _ _ => rfl))))) ad_nil)) (ad_cons (pd_ix ixd (vr 9) pd_int (fun _ _ => rfl)) ad_nil)))))
      (bd_cons (sd_setLc 4 (own := [("_law_row", 11)]) rfl sc_w_keepers.nd (sw_true rfl rfl rfl (by decide +kernel)) (id_seq (pd_callB (cd_sortP) (by rfl) T.sorted (by decide +kernel) (ad_cons (vr 3) ad_nil))) (blkOk_by (N := N_w_keepers) (sc := (defScope s_w_keepers)) (by decide +kernel)) (fun _ _ _ _ _ => (gw_name (i := 11) sc_w_keepers.nd)) (fun _ _ _ _ _ => tsd_nil) (fun _ _ _ _ _ => (pd_ix ixd (vr 11) pd_int (fun _ _ => rfl))))
      (bd_cons (sd_if (td_cmp (opd_eq hr.units) (pd_ix ixd (vr 0) pd_int (fun _ _ => rfl)) pd_str (nomark _)) (bd_one (sd_ret (pd_slice sld (vr 4) od_no (od_some (pd_ix ixd (vr 0) pd_int (fun _ _ => rfl)))))) bd_nil)
      (bd_cons (sd_set 5 sc_w_keepers.nd (pd_callTy (cd_dictC rfl) (by rfl) T.dict (by decide +kernel) (ad_cons (pd_lc (own := [("_law_host", 9)]) rfl sc_w_keepers.nd (id_seq (vr 1)) (blkOk_by (N := N_w_keepers) (sc := (defScope s_w_keepers)) (by decide +kernel)) (fun _ _ _ _ _ => (gw_name (i := 9) sc_w_keepers.nd)) (fun _ _ _ _ _ => tsd_nil) (fun _ _ _ _ _ => (pd_tup (ad_cons (pd_ix ixd (vr 9) pd_int (fun _ _ => rfl)) (ad_cons (pd_ix ixd (vr 9) pd_int (fun _ _ => rfl)) ad_nil))))) ad_nil)))
      (bd_cons (sd_set 6 sc_w_keepers.nd (pd_lstC ad_nil))
      (bd_cons (sd_for poF rfl (id_seq (vr 4)) (gd_name (i := 7) sc_w_keepers.nd) (bd_one (sd_if (td_cmp opd_ni (pd_dget (hu_of hr) (vr 5) (vr 7) (fun _ _ => rfl)) (pd_lc (own := [("_law_first", 12)]) rfl sc_w_keepers.nd (id_seq (vr 6)) (blkOk_by (N := N_w_keepers) (sc := (defScope s_w_keepers)) (by decide +kernel)) (fun _ _ _ _ _ => (gw_name (i := 12) sc_w_keepers.nd)) (fun _ _ _ _ _ => tsd_nil) (fun _ _ _ _ _ => (pd_dget (hu_of hr) (vr 5) (vr 12) (fun _ _ => rfl)))) (by rfl)) (bd_one (sd_expr (pd_app (vr 6) (ad_cons (vr 7) ad_nil)))) bd_nil)))
      (bd_cons (sd_set 6 sc_w_keepers.nd (pd_slice sld (vr 6) od_no (od_some (pd_ix ixd (vr 0) pd_int (fun _ _ => rfl)))))
      (bd_cons (sd_setLc 8 (own := [("_law_each", 7)]) rfl sc_w_keepers.nd (sw_true rfl rfl rfl (by decide +kernel)) (id_seq (vr 4)) (blkOk_by (N := N_w_keepers) (sc := (defScope s_w_keepers)) (by decide +kernel)) (fun _ _ _ _ _ => (gw_name (i := 7) sc_w_keepers.nd)) (fun _ _ _ _ _ => (tsd_one (td_cmp opd_ni (vr 7) (vr 6) (by rfl)))) (fun _ _ _ _ _ => (vr 7)))
      (bd_one (sd_ret (pd_op opd_add (vr 6) (pd_slice sld (vr 8) od_no (od_some (pd_op opd_sub (pd_ix ixd (vr 0) pd_int (fun _ _ => rfl)) (pd_callB (cd_len) (by rfl) T.len (by decide +kernel) (ad_cons (vr 6) ad_nil))))))))))))))))) hk
abbrev P_w_well : List Str := ["_law_script", "_law_turn"]
theorem sc_w_well : FnScope N_w_well P_w_well (defScope s_w_well) := ⟨rfl, rfl, rfl, by decide +kernel, rfl, by decide +kernel, by decide +kernel⟩
theorem ok_w_well {P : Program} {w : World} {K : PySem.W.Frag} {mg : Str → Option Value} {base : Heap} {C f : Addr} {fd : FuncData} (T : Tx K mg C) 
    (F : FunD K "_law_well" "_law_well" (defArgs s_w_well) (defBody s_w_well) (defScope s_w_well) [] [] f fd) (hk : Keeps N_w_well 2 (sd_w_well C) (db_w_well C)) : FnOk P w K mg base (L2.CX P w) 1 f fd P_w_well (spOf K 2 (sd_w_well C)) := 
  okD F sc_w_well rfl (fun cdv A fr s H E hr => (bd_cons (sd_set 2 sc_w_well.nd (pd_if (td_cmp opd_lt (vr 1) (pd_callB (cd_len) (by rfl) T.len (by decide +kernel) (ad_cons (vr 0) ad_nil)) (nomark _)) (pd_ix ixd (vr 0) (vr 1) (fun _ _ => rfl)) (pd_op opd_add (pd_op opd_mul pd_int (vr 1)) pd_int)))
      (bd_cons (sd_set 3 sc_w_well.nd (pd_op opd_add pd_int (pd_op opd_mul pd_int (vr 1))))
      (bd_cons (sd_for poF rfl (id_seq (pd_op opd_add (pd_lst (ad_cons (vr 2) ad_nil)) (pd_slice sld (vr 0) od_no (od_some pd_int)))) (gd_name (i := 4) sc_w_well.nd) (bd_one (sd_set 3 sc_w_well.nd (pd_op opd_mod (pd_callTy (cd_int) (by rfl) T.int (by decide +kernel) (ad_cons (pd_op opd_add (pd_op opd_mul (vr 3) pd_int) (vr 4)) ad_nil)) pd_int))))
      (bd_one (sd_ret (pd_lstC (ad_cons (pd_if (td_cmp opd_ge (pd_callB (cd_abs) (by rfl) T.abs (by decide +kernel) (ad_cons (vr 2) ad_nil)) (pd_op opd_pow pd_int pd_int) (nomark _)) (pd_callB (cd_abs) (by rfl) T.abs (by decide +kernel) (ad_cons (vr 2) ad_nil)) pd_int) (ad_cons (vr 3) (ad_cons pd_int ad_nil)))))))))) hk
abbrev P_w_least_left : List Str := ["_law_hosts_here", "_law_table_here", "_law_kind", "_law_many"]
theorem sc_w_least_left : FnScope N_w_least_left P_w_least_left (defScope s_w_least_left) := ⟨rfl, rfl, rfl, by decide +kernel, rfl, by decide +kernel, by decide +kernel⟩
theorem ok_w_least_left {P : Program} {w : World} {K : PySem.W.Frag} {mg : Str → Option Value} {base : Heap} {C f : Addr} {fd : FuncData} (T : Tx K mg C) (F_w_parts : Fok P w K mg base "_law_parts" 1 2 (sd_w_parts C)) (F_w_words : Fok P w K mg base "_law_words" 1 2 (sd_w_words C))
    (F : FunD K "_law_least_left" "_law_least_left" (defArgs s_w_least_left) (defBody s_w_least_left) (defScope s_w_least_left) [] [] f fd) (hk : Keeps N_w_least_left 4 (sd_w_least_left C) (db_w_least_left C)) : FnOk P w K mg base (L2.CX P w) 2 f fd P_w_least_left (spOf K 4 (sd_w_least_left C)) := 
  okD F sc_w_least_left rfl (fun cdv A fr s H E hr => (bd_cons (sd_asg (pd_fn F_w_words (hr.mono (by decide)) tkF (ad_cons (vr 0) (ad_cons (vr 2) ad_nil))) (gd_tup (n := 2) rfl (gds_cons (gd_name (i := 4) sc_w_least_left.nd) (gds_cons (gd_name (i := 5) sc_w_least_left.nd) gds_nil))))
      (bd_cons (sd_set 6 sc_w_least_left.nd (pd_lstC ad_nil))
      (bd_cons (sd_for poF rfl (id_seq (pd_fn F_w_parts (hr.mono (by decide)) tkF (ad_cons (vr 5) (ad_cons (pd_callB (cd_min2 rfl) (by rfl) T.min (by decide +kernel) (ad_cons (vr 3) (ad_cons (pd_callB (cd_len) (by rfl) T.len (by decide +kernel) (ad_cons (vr 5) ad_nil)) ad_nil))) ad_nil)))) (gd_name (i := 7) sc_w_least_left.nd) (bd_one (sd_for poF rfl (id_seq (vr 1)) (gd_name (i := 8) sc_w_least_left.nd) (bd_one (sd_expr (pd_app (vr 6) (ad_cons (pd_callB (cd_len) (by rfl) T.len (by decide +kernel) (ad_cons (pd_lc (own := [("_law_each", 9)]) rfl sc_w_least_left.nd (id_seq (vr 8)) (blkOk_by (N := N_w_least_left) (sc := (defScope s_w_least_left)) (by decide +kernel)) (fun _ _ _ _ _ => (gw_name (i := 9) sc_w_least_left.nd)) (fun _ _ _ _ _ => (tsd_one (td_cmp opd_ni (pd_dget (hu_of hr) (vr 4) (vr 9) (fun _ _ => rfl)) (vr 7) (by rfl)))) (fun _ _ _ _ _ => (vr 9))) ad_nil)) ad_nil)))))))
      (bd_one (sd_ret (pd_callB (cd_minL rfl) (by rfl) T.min (by decide +kernel) (ad_cons (vr 6) ad_nil)))))))) hk
abbrev P_is_from_to : List Str := ["value", "least", "most"]
theorem sc_is_from_to : FnScope N_is_from_to P_is_from_to (defScope s_is_from_to) := ⟨rfl, rfl, rfl, by decide +kernel, rfl, by decide +kernel, by decide +kernel⟩
theorem ok_is_from_to {P : Program} {w : World} {K : PySem.W.Frag} {mg : Str → Option Value} {base : Heap} {C f : Addr} {fd : FuncData} (T : Tx K mg C) (F_is_whole : Fok P w K mg base "is_whole" 1 1 (sd_is_whole C))
    (F : FunD K "is_from_to" "is_from_to" (defArgs s_is_from_to) (defBody s_is_from_to) (defScope s_is_from_to) [] [] f fd) (hk : Keeps N_is_from_to 3 (sd_is_from_to C) (db_is_from_to C)) : FnOk P w K mg base (L2.CX P w) 2 f fd P_is_from_to (spOf K 3 (sd_is_from_to C)) := 
  okD F sc_is_from_to rfl (fun cdv A fr s H E hr => (bd_one (sd_ret (pd_and (pd_fn F_is_whole (hr.mono (by decide)) tkF (ad_cons (vr 0) ad_nil)) (pd_one (pd_chn opd_le opd_le (vr 1) (vr 0) (vr 2))))))) hk
abbrev P_is_free_name : List Str := ["value", "hosts"]
theorem sc_is_free_name : FnScope N_is_free_name P_is_free_name (defScope s_is_free_name) := ⟨rfl, rfl, rfl, by decide +kernel, rfl, by decide +kernel, by decide +kernel⟩
theorem ok_is_free_name {P : Program} {w : World} {K : PySem.W.Frag} {mg : Str → Option Value} {base : Heap} {C f : Addr} {fd : FuncData} (T : Tx K mg C) (F_is_name : Fok P w K mg base "is_name" 1 1 (sd_is_name C))
    (F : FunD K "is_free_name" "is_free_name" (defArgs s_is_free_name) (defBody s_is_free_name) (defScope s_is_free_name) [] [] f fd) (hk : Keeps N_is_free_name 2 (sd_is_free_name C) (db_is_free_name C)) : FnOk P w K mg base (L2.CX P w) 2 f fd P_is_free_name (spOf K 2 (sd_is_free_name C)) := 
  okD F sc_is_free_name rfl (fun cdv A fr s H E hr => (bd_one (sd_ret (pd_and (pd_fn F_is_name (hr.mono (by decide)) tkF (ad_cons (vr 0) ad_nil)) (pd_one (pd_not (pd_callB (cd_any rfl) (by rfl) T.any (by decide +kernel) (ad_cons (pd_lc (own := [("host", 2)]) rfl sc_is_free_name.nd (id_seq (vr 1)) (blkOk_by (N := N_is_free_name) (sc := (defScope s_is_free_name)) (by decide +kernel)) (fun _ _ _ _ _ => (gw_name (i := 2) sc_is_free_name.nd)) (fun _ _ _ _ _ => tsd_nil) (fun _ _ _ _ _ => (pd_cmp (opd_eq hr.units) (vr 0) (pd_ix ixd (vr 2) pd_int (fun _ _ => rfl)) (nomark _)))) ad_nil)))))))) hk
abbrev P_w_marks : List Str := ["_law_well_here", "_law_slots_here", "_law_many"]
theorem sc_w_marks : FnScope N_w_marks P_w_marks (defScope s_w_marks) := ⟨rfl, rfl, rfl, by decide +kernel, rfl, by decide +kernel, by decide +kernel⟩
theorem ok_w_marks {P : Program} {w : World} {K : PySem.W.Frag} {mg : Str → Option Value} {base : Heap} {C f : Addr} {fd : FuncData} (T : Tx K mg C) (F_w_dip : Fok P w K mg base "_law_dip" 1 2 (sd_w_dip C))
    (F : FunD K "_law_marks" "_law_marks" (defArgs s_w_marks) (defBody s_w_marks) (defScope s_w_marks) [] [] f fd) (hk : Keeps N_w_marks 3 (sd_w_marks C) (db_w_marks C)) : FnOk P w K mg base (L2.CX P w) 2 f fd P_w_marks (spOf K 3 (sd_w_marks C)) := 
  okD F sc_w_marks rfl (fun cdv A fr s H E hr => (bd_cons (sd_par2 3 4 rfl sc_w_marks.nd (ad_cons (pd_lstC ad_nil) (ad_cons (pd_ix ixd (vr 1) pd_int (fun _ _ => rfl)) ad_nil)))
      (bd_cons (sd_set 5 sc_w_marks.nd (pd_callB (cd_min2 rfl) (by rfl) T.min (by decide +kernel) (ad_cons (vr 4) (ad_cons pd_int ad_nil))))
      (bd_cons (sd_for poF rfl (id_rng1 (by rfl) T.range (ad_cons (vr 2) ad_nil)) (gd_name (i := 6) sc_w_marks.nd) (bd_cons (sd_set 7 sc_w_marks.nd (pd_fn F_w_dip (hr.mono (by decide)) tkF (ad_cons (vr 0) (ad_cons (pd_callB (cd_len) (by rfl) T.len (by decide +kernel) (ad_cons (pd_ix ixd (vr 1) pd_int (fun _ _ => rfl)) ad_nil)) ad_nil))))
      (bd_cons (sd_expr (pd_app (vr 3) (ad_cons (pd_op opd_add (pd_op opd_mul (pd_ix ixd (pd_ix ixd (vr 1) pd_int (fun _ _ => rfl)) (vr 7) (fun _ _ => rfl)) (vr 4)) (pd_op opd_mul (pd_fn F_w_dip (hr.mono (by decide)) tkF (ad_cons (vr 0) (ad_cons (vr 5) ad_nil))) (pd_op opd_div (vr 4) (vr 5)))) ad_nil)))
      (bd_one (sd_asg (pd_op opd_add (pd_slice sld (pd_ix ixd (vr 1) pd_int (fun _ _ => rfl)) od_no (od_some (vr 7))) (pd_slice sld (pd_ix ixd (vr 1) pd_int (fun _ _ => rfl)) (od_some (pd_op opd_add (vr 7) pd_int)) od_no)) (gd_sub (vr 1) pd_int))))))
      (bd_one (sd_ret (pd_callTy (cd_tuple) (by rfl) T.tuple (by decide +kernel) (ad_cons (pd_callB (cd_sortI) (by rfl) T.sorted (by decide +kernel) (ad_cons (vr 3) ad_nil)) ad_nil)))))))) hk
abbrev P_w_of : List Str := ["_law_well_here", "_law_menu"]
theorem sc_w_of : FnScope N_w_of P_w_of (defScope s_w_of) := ⟨rfl, rfl, rfl, by decide +kernel, rfl, by decide +kernel, by decide +kernel⟩
theorem ok_w_of {P : Program} {w : World} {K : PySem.W.Frag} {mg : Str → Option Value} {base : Heap} {C f : Addr} {fd : FuncData} (T : Tx K mg C) (F_w_dip : Fok P w K mg base "_law_dip" 1 2 (sd_w_dip C))
    (F : FunD K "_law_of" "_law_of" (defArgs s_w_of) (defBody s_w_of) (defScope s_w_of) [] [] f fd) (hk : Keeps N_w_of 2 (sd_w_of C) (db_w_of C)) : FnOk P w K mg base (L2.CX P w) 2 f fd P_w_of (spOf K 2 (sd_w_of C)) := 
  okD F sc_w_of rfl (fun cdv A fr s H E hr => (bd_one (sd_ret (pd_ix ixd (vr 1) (pd_fn F_w_dip (hr.mono (by decide)) tkF (ad_cons (vr 0) (ad_cons (pd_callB (cd_len) (by rfl) T.len (by decide +kernel) (ad_cons (vr 1) ad_nil)) ad_nil))) (fun _ _ => rfl))))) hk
abbrev P_w_names : List Str := ["_law_well_here"]
theorem sc_w_names : FnScope N_w_names P_w_names (defScope s_w_names) := ⟨rfl, rfl, rfl, by decide +kernel, rfl, by decide +kernel, by decide +kernel⟩
theorem ok_w_names {P : Program} {w : World} {K : PySem.W.Frag} {mg : Str → Option Value} {base : Heap} {C f : Addr} {fd : FuncData} (T : Tx K mg C) (F_w_dip : Fok P w K mg base "_law_dip" 1 2 (sd_w_dip C))
    (F : FunD K "_law_names" "_law_names" (defArgs s_w_names) (defBody s_w_names) (defScope s_w_names) [] [] f fd) (hk : Keeps N_w_names 1 (sd_w_names C) (db_w_names C)) : FnOk P w K mg base (L2.CX P w) 2 f fd P_w_names (spOf K 1 (sd_w_names C)) := 
  okD F sc_w_names rfl (fun cdv A fr s H E hr => (bd_cons (sd_set 1 sc_w_names.nd (pd_lst (ad_cons pd_str (ad_cons pd_str (ad_cons pd_str (ad_cons pd_str (ad_cons pd_str (ad_cons pd_str (ad_cons pd_str (ad_cons pd_str (ad_cons pd_str (ad_cons pd_str ad_nil))))))))))))
      (bd_cons (sd_set 2 sc_w_names.nd (pd_fn F_w_dip (hr.mono (by decide)) tkF (ad_cons (vr 0) (ad_cons pd_int ad_nil))))
      (bd_one (sd_ret (pd_op opd_add (pd_slice sld (vr 1) (od_some (vr 2)) od_no) (pd_slice sld (vr 1) od_no (od_some (vr 2))))))))) hk
abbrev P_w_table : List Str := ["_law_rules_here", "_law_hosts_here"]
theorem sc_w_table : FnScope N_w_table P_w_table (defScope s_w_table) := ⟨rfl, rfl, rfl, by decide +kernel, rfl, by decide +kernel, by decide +kernel⟩
theorem ok_w_table {P : Program} {w : World} {K : PySem.W.Frag} {mg : Str → Option Value} {base : Heap} {C f : Addr} {fd : FuncData} (T : Tx K mg C) (F_w_keepers : Fok P w K mg base "_law_keepers" 1 3 (sd_w_keepers C))
    (F : FunD K "_law_table" "_law_table" (defArgs s_w_table) (defBody s_w_table) (defScope s_w_table) [] [] f fd) (hk : Keeps N_w_table 2 (sd_w_table C) (db_w_table C)) : FnOk P w K mg base (L2.CX P w) 2 f fd P_w_table (spOf K 2 (sd_w_table C)) := 
  okD F sc_w_table rfl (fun cdv A fr s H E hr => (bd_one (sd_ret (pd_lc (own := [("_law_key", 2)]) rfl sc_w_table.nd (id_rng1 (by rfl) T.range (ad_cons (pd_ix ixd (vr 0) pd_int (fun _ _ => rfl)) ad_nil)) (blkOk_by (N := N_w_table) (sc := (defScope s_w_table)) (by decide +kernel)) (fun _ _ _ _ _ => (gw_name (i := 2) sc_w_table.nd)) (fun _ _ _ _ _ => tsd_nil) (fun _ _ _ _ _ => (pd_fn F_w_keepers (hr.mono (by decide)) takes0 (ad_cons (vr 0) (ad_cons (vr 1) (ad_cons (vr 2) ad_nil))))))))) hk
abbrev P_are_free_marks : List Str := ["value", "points", "hosts"]
theorem sc_are_free_marks : FnScope N_are_free_marks P_are_free_marks (defScope s_are_free_marks) := ⟨rfl, rfl, rfl, by decide +kernel, rfl, by decide +kernel, by decide +kernel⟩
theorem ok_are_free_marks {P : Program} {w : World} {K : PySem.W.Frag} {mg : Str → Option Value} {base : Heap} {C f : Addr} {fd : FuncData} (T : Tx K mg C) (F_is_ascending : Fok P w K mg base "is_ascending" 1 1 (sd_is_ascending C)) (F_is_from_to : Fok P w K mg base "is_from_to" 2 3 (sd_is_from_to C))
    (F : FunD K "are_free_marks" "are_free_marks" (defArgs s_are_free_marks) (defBody s_are_free_marks) (defScope s_are_free_marks) [] [] f fd) (hk : Keeps N_are_free_marks 3 (sd_are_free_marks C) (db_are_free_marks C)) : FnOk P w K mg base (L2.CX P w) 3 f fd P_are_free_marks (spOf K 3 (sd_are_free_marks C)) := 
  okD F sc_are_free_marks rfl (fun cdv A fr s H E hr => (bd_cons (sd_if (td_w (wd_or (td_not (td_tru (pd_isi (vr 0) T.isinstance T.tuple (by decide +kernel)))) (wd_or1 (td_not (td_chn opd_le opd_le pd_int (pd_callB (cd_len) (by rfl) T.len (by decide +kernel) (ad_cons (vr 0) ad_nil)) (pd_cint T.c_MOST_MARKS)))))) (bd_one (sd_ret pd_bl)) bd_nil)
      (bd_cons (sd_if (td_w (wd_or (td_not (td_tru (pd_callB (cd_all rfl) (by rfl) T.all (by decide +kernel) (ad_cons (pd_lc (own := [("mark", 3)]) rfl sc_are_free_marks.nd (id_seq (vr 0)) (blkOk_by (N := N_are_free_marks) (sc := (defScope s_are_free_marks)) (by decide +kernel)) (fun _ _ _ _ _ => (gw_name (i := 3) sc_are_free_marks.nd)) (fun _ _ _ _ _ => tsd_nil) (fun _ _ _ _ _ => (pd_fn F_is_from_to (hr.mono (by decide)) takes0 (ad_cons (vr 3) (ad_cons pd_int (ad_cons (pd_op opd_sub (vr 1) pd_int) ad_nil)))))) ad_nil)))) (wd_or1 (td_not (td_tru (pd_fn F_is_ascending (hr.mono (by decide)) tkF (ad_cons (vr 0) ad_nil))))))) (bd_one (sd_ret pd_bl)) bd_nil)
      (bd_one (sd_ret (pd_not (pd_callB (cd_any rfl) (by rfl) T.any (by decide +kernel) (ad_cons (pd_lc2 (own := [("host", 4), ("mark", 3)]) (vs1 := [3]) rfl sc_are_free_marks.nd (id_seq (vr 2)) (blkOk_by (N := N_are_free_marks) (sc := (defScope s_are_free_marks)) (by decide +kernel)) (by decide) (fun _ _ _ _ _ => (gw_name (i := 4) sc_are_free_marks.nd)) (fun _ _ _ _ _ => tsd_nil) (fun _ _ _ _ _ => (id_seq (vr 0))) (fun _ _ _ _ _ => (gw_name (i := 3) sc_are_free_marks.nd)) (fun _ _ _ _ _ => tsd_nil) (fun _ _ _ _ _ => (pd_cmp opd_in (vr 3) (pd_ix ixd (vr 4) pd_int (fun _ _ => rfl)) (by rfl)))) ad_nil)))))))) hk
abbrev P_new_racks_first : List Str := ["ring", "walk"]
theorem sc_new_racks_first : FnScope N_new_racks_first P_new_racks_first (defScope s_new_racks_first) := ⟨rfl, rfl, rfl, by decide +kernel, rfl, by decide +kernel, by decide +kernel⟩
theorem ok_new_racks_first {P : Program} {w : World} {K : PySem.W.Frag} {mg : Str → Option Value} {base : Heap} {C f : Addr} {fd : FuncData} (T : Tx K mg C) (P_Ring_hosts : Pok P w K mg base C "hosts" 1 (sd_Ring_hosts C))
    (F : FunD K "new_racks_first" "new_racks_first" (defArgs s_new_racks_first) (defBody s_new_racks_first) (defScope s_new_racks_first) [] [] f fd) (hk : Keeps N_new_racks_first 2 (sd_new_racks_first C) (db_new_racks_first C)) : FnOk P w K mg base (L2.CX P w) 3 f fd P_new_racks_first (spOf K 2 (sd_new_racks_first C)) := 
  okD F sc_new_racks_first rfl (fun cdv A fr s H E hr => (bd_cons (sd_setDc 2 (own := [("name", 6), ("rack", 7), ("_", 8)]) rfl sc_new_racks_first.nd (sw_trueD rfl rfl rfl (by decide +kernel)) (id_seq (pd_prop P_Ring_hosts (hr.mono (by decide)) (vr 0))) (blkOk_by (N := N_new_racks_first) (sc := (defScope s_new_racks_first)) (by decide +kernel)) (fun _ _ _ _ _ => (gw_tup (n := 3) rfl (gws_cons (gw_name (i := 6) sc_new_racks_first.nd) (gws_cons (gw_name (i := 7) sc_new_racks_first.nd) (gws_cons (gw_name (i := 8) sc_new_racks_first.nd) gws_nil))))) (fun _ _ _ _ _ => tsd_nil) (fun _ _ _ _ _ => (vr 6)) (fun _ _ _ _ _ => (vr 7)))
      (bd_cons (sd_set 3 sc_new_racks_first.nd (pd_lstC ad_nil))
      (bd_cons (sd_set 4 sc_new_racks_first.nd (pd_lstC ad_nil))
      (bd_cons (sd_set 5 sc_new_racks_first.nd (pd_lstC ad_nil))
      (bd_cons (sd_for poF rfl (id_seq (vr 1)) (gd_name (i := 6) sc_new_racks_first.nd) (bd_cons (sd_set 7 sc_new_racks_first.nd (pd_dget (hu_of hr) (vr 2) (vr 6) (fun _ _ => rfl)))
      (bd_one (sd_if (td_cmp opd_in (vr 7) (vr 3) (by rfl)) (bd_one (sd_expr (pd_app (vr 5) (ad_cons (vr 6) ad_nil)))) (bd_cons (sd_expr (pd_app (vr 3) (ad_cons (vr 7) ad_nil)))
      (bd_one (sd_expr (pd_app (vr 4) (ad_cons (vr 6) ad_nil)))))))))
      (bd_one (sd_ret (pd_callTy (cd_tuple) (by rfl) T.tuple (by decide +kernel) (ad_cons (pd_op opd_add (vr 4) (vr 5)) ad_nil)))))))))) hk
abbrev P_check_point : List Str := ["ring", "point"]
theorem sc_check_point : FnScope N_check_point P_check_point (defScope s_check_point) := ⟨rfl, rfl, rfl, by decide +kernel, rfl, by decide +kernel, by decide +kernel⟩
theorem ok_check_point {P : Program} {w : World} {K : PySem.W.Frag} {mg : Str → Option Value} {base : Heap} {C f : Addr} {fd : FuncData} (T : Tx K mg C) (P_Ring_points : Pok P w K mg base C "points" 1 (sd_Ring_points C)) (F_is_from_to : Fok P w K mg base "is_from_to" 2 3 (sd_is_from_to C))
    (F : FunD K "check_point" "check_point" (defArgs s_check_point) (defBody s_check_point) (defScope s_check_point) [] [] f fd) (hk : Keeps N_check_point 2 (sd_check_point C) (db_check_point C)) : FnOk P w K mg base (L2.CX P w) 3 f fd P_check_point (spOf K 2 (sd_check_point C)) := 
  okD F sc_check_point rfl (fun cdv A fr s H E hr => (bd_one (sd_if (td_not (td_tru (pd_fn F_is_from_to (hr.mono (by decide)) tkF (ad_cons (vr 1) (ad_cons pd_int (ad_cons (pd_op opd_sub (pd_prop P_Ring_points (hr.mono (by decide)) (vr 0)) pd_int) ad_nil)))))) (bd_one sd_never) bd_nil))) hk
abbrev P_is_wish_for_ring : List Str := ["value"]
theorem sc_is_wish_for_ring : FnScope N_is_wish_for_ring P_is_wish_for_ring (defScope s_is_wish_for_ring) := ⟨rfl, rfl, rfl, by decide +kernel, rfl, by decide +kernel, by decide +kernel⟩
theorem ok_is_wish_for_ring {P : Program} {w : World} {K : PySem.W.Frag} {mg : Str → Option Value} {base : Heap} {C f : Addr} {fd : FuncData} (T : Tx K mg C) (F_is_form_of : Fok P w K mg base "is_form_of" 1 2 (sd_is_form_of C)) (F_is_from_to : Fok P w K mg base "is_from_to" 2 3 (sd_is_from_to C)) (F_is_name : Fok P w K mg base "is_name" 1 1 (sd_is_name C)) (F_is_whole : Fok P w K mg base "is_whole" 1 1 (sd_is_whole C)) (F_is_word_of : Fok P w K mg base "is_word_of" 1 2 (sd_is_word_of C))
    (F : FunD K "is_wish_for_ring" "is_wish_for_ring" (defArgs s_is_wish_for_ring) (defBody s_is_wish_for_ring) (defScope s_is_wish_for_ring) [] [] f fd) (hk : Keeps N_is_wish_for_ring 1 (sd_is_wish_for_ring C) (db_is_wish_for_ring C)) : FnOk P w K mg base (L2.CX P w) 3 f fd P_is_wish_for_ring (spOf K 1 (sd_is_wish_for_ring C)) := 
  okD F sc_is_wish_for_ring rfl (fun cdv A fr s H E hr => (bd_cons (sd_if (td_not (td_tru (pd_fn F_is_form_of (hr.mono (by decide)) tkF (ad_cons (vr 0) (ad_cons (pd_cttup T.c_RING_WISHES) ad_nil))))) (bd_one (sd_ret pd_bl)) bd_nil)
      (bd_cons (sd_if (td_cmp (opd_eq hr.units) (pd_ix ixd (vr 0) pd_int (fun _ _ => rfl)) pd_str (nomark _)) (bd_one (sd_ret (pd_fn F_is_from_to (hr.mono (by decide)) tkF (ad_cons (pd_ix ixd (vr 0) pd_int (fun _ _ => rfl)) (ad_cons pd_int (ad_cons (pd_cint T.c_MOST_FACTOR) ad_nil)))))) bd_nil)
      (bd_cons (sd_if (td_cmp (opd_eq hr.units) (pd_ix ixd (vr 0) pd_int (fun _ _ => rfl)) pd_str (nomark _)) (bd_one (sd_ret (pd_and (pd_fn F_is_name (hr.mono (by decide)) tkF (ad_cons (pd_ix ixd (vr 0) pd_int (fun _ _ => rfl)) ad_nil)) (pd_and (pd_fn F_is_whole (hr.mono (by decide)) tkF (ad_cons (pd_ix ixd (vr 0) pd_int (fun _ _ => rfl)) ad_nil)) (pd_one (pd_cmp opd_ge (pd_ix ixd (vr 0) pd_int (fun _ _ => rfl)) pd_int (nomark _))))))) bd_nil)
      (bd_cons (sd_asg (vr 0) (gd_tup (n := 4) rfl (gds_cons (gd_name (i := 1) sc_is_wish_for_ring.nd) (gds_cons (gd_name (i := 2) sc_is_wish_for_ring.nd) (gds_cons (gd_name (i := 3) sc_is_wish_for_ring.nd) (gds_cons (gd_name (i := 4) sc_is_wish_for_ring.nd) gds_nil))))))
      (bd_one (sd_ret (pd_and (pd_fn F_is_word_of (hr.mono (by decide)) tkF (ad_cons (vr 2) (ad_cons (pd_ctup T.c_KINDS) ad_nil))) (pd_and (pd_fn F_is_from_to (hr.mono (by decide)) tkF (ad_cons (vr 3) (ad_cons pd_int (ad_cons (pd_cint T.c_MOST_HOSTS) ad_nil)))) (pd_one (pd_fn F_is_from_to (hr.mono (by decide)) tkF (ad_cons (vr 4) (ad_cons pd_int (ad_cons (pd_cint T.c_MOST_FACTOR) ad_nil)))))))))))))) hk
abbrev P_Ring___contains__ : List Str := ["self", "x"]
theorem sc_Ring___contains__ : FnScope N_Ring___contains__ P_Ring___contains__ (defScope s_Ring___contains__) := ⟨rfl, rfl, rfl, by decide +kernel, rfl, by decide +kernel, by decide +kernel⟩
theorem ok_Ring___contains__ {P : Program} {w : World} {K : PySem.W.Frag} {mg : Str → Option Value} {base : Heap} {C f : Addr} {fd : FuncData} (T : Tx K mg C) (P_Ring_names : Pok P w K mg base C "names" 1 (sd_Ring_names C)) (F_is_word_of : Fok P w K mg base "is_word_of" 1 2 (sd_is_word_of C))
    (F : FunD K "__contains__" "Ring.__contains__" (defArgs s_Ring___contains__) (defBody s_Ring___contains__) (defScope s_Ring___contains__) [] [] f fd) (hk : Keeps N_Ring___contains__ 2 (sd_Ring___contains__ C) (db_Ring___contains__ C)) : FnOk P w K mg base (L2.CX P w) 3 f fd P_Ring___contains__ (spOf K 2 (sd_Ring___contains__ C)) := 
  okD F sc_Ring___contains__ rfl (fun cdv A fr s H E hr => (bd_one (sd_ret (pd_fn F_is_word_of (hr.mono (by decide)) tkF (ad_cons (vr 1) (ad_cons (pd_prop P_Ring_names (hr.mono (by decide)) (vr 0)) ad_nil)))))) hk
abbrev P_w_hosts : List Str := ["_law_well_here", "_law_slots_here", "_law_labels", "_law_many", "_law_each"]
theorem sc_w_hosts : FnScope N_w_hosts P_w_hosts (defScope s_w_hosts) := ⟨rfl, rfl, rfl, by decide +kernel, rfl, by decide +kernel, by decide +kernel⟩
theorem ok_w_hosts {P : Program} {w : World} {K : PySem.W.Frag} {mg : Str → Option Value} {base : Heap} {C f : Addr} {fd : FuncData} (T : Tx K mg C) (F_w_dip : Fok P w K mg base "_law_dip" 1 2 (sd_w_dip C)) (F_w_marks : Fok P w K mg base "_law_marks" 2 3 (sd_w_marks C)) (F_w_of : Fok P w K mg base "_law_of" 2 2 (sd_w_of C))
    (F : FunD K "_law_hosts" "_law_hosts" (defArgs s_w_hosts) (defBody s_w_hosts) (defScope s_w_hosts) [] [] f fd) (hk : Keeps N_w_hosts 5 (sd_w_hosts C) (db_w_hosts C)) : FnOk P w K mg base (L2.CX P w) 3 f fd P_w_hosts (spOf K 5 (sd_w_hosts C)) := 
  okD F sc_w_hosts rfl (fun cdv A fr s H E hr => (bd_cons (sd_set 5 sc_w_hosts.nd (pd_lstC ad_nil))
      (bd_cons (sd_for poF rfl (id_rng1 (by rfl) T.range (ad_cons (vr 3) ad_nil)) (gd_name (i := 6) sc_w_hosts.nd) (bd_one (sd_expr (pd_app (vr 5) (ad_cons (pd_tup (ad_cons (pd_ix ixd (vr 2) (vr 6) (fun _ _ => rfl)) (ad_cons (pd_fn F_w_of (hr.mono (by decide)) tkF (ad_cons (vr 0) (ad_cons (pd_lst (ad_cons pd_str (ad_cons pd_str (ad_cons pd_str ad_nil)))) ad_nil))) (ad_cons (pd_fn F_w_marks (hr.mono (by decide)) tkF (ad_cons (vr 0) (ad_cons (vr 1) (ad_cons (pd_op opd_add pd_int (pd_fn F_w_dip (hr.mono (by decide)) tkF (ad_cons (vr 0) (ad_cons (vr 4) ad_nil)))) ad_nil)))) ad_nil)))) ad_nil)))))
      (bd_one (sd_ret (pd_callTy (cd_tuple) (by rfl) T.tuple (by decide +kernel) (ad_cons (vr 5) ad_nil))))))) hk
abbrev P_w_rules : List Str := ["_law_well_here", "_law_points", "_law_most"]
theorem sc_w_rules : FnScope N_w_rules P_w_rules (defScope s_w_rules) := ⟨rfl, rfl, rfl, by decide +kernel, rfl, by decide +kernel, by decide +kernel⟩
theorem ok_w_rules {P : Program} {w : World} {K : PySem.W.Frag} {mg : Str → Option Value} {base : Heap} {C f : Addr} {fd : FuncData} (T : Tx K mg C) (F_w_dip : Fok P w K mg base "_law_dip" 1 2 (sd_w_dip C)) (F_w_of : Fok P w K mg base "_law_of" 2 2 (sd_w_of C))
    (F : FunD K "_law_rules" "_law_rules" (defArgs s_w_rules) (defBody s_w_rules) (defScope s_w_rules) [] [] f fd) (hk : Keeps N_w_rules 3 (sd_w_rules C) (db_w_rules C)) : FnOk P w K mg base (L2.CX P w) 3 f fd P_w_rules (spOf K 3 (sd_w_rules C)) := 
  okD F sc_w_rules rfl (fun cdv A fr s H E hr => (bd_cons (sd_set 3 sc_w_rules.nd (pd_op opd_add pd_int (pd_fn F_w_dip (hr.mono (by decide)) tkF (ad_cons (vr 0) (ad_cons (vr 2) ad_nil)))))
      (bd_cons (sd_par2 4 5 rfl sc_w_rules.nd (ad_cons (pd_fn F_w_of (hr.mono (by decide)) tkF (ad_cons (vr 0) (ad_cons (pd_lst (ad_cons pd_str (ad_cons pd_str ad_nil))) ad_nil))) (ad_cons (pd_fn F_w_of (hr.mono (by decide)) tkF (ad_cons (vr 0) (ad_cons (pd_lst (ad_cons pd_str (ad_cons pd_str ad_nil))) ad_nil))) ad_nil)))
      (bd_one (sd_ret (pd_tup (ad_cons (vr 1) (ad_cons (vr 3) (ad_cons (vr 4) (ad_cons (pd_op opd_add pd_int (pd_fn F_w_dip (hr.mono (by decide)) tkF (ad_cons (vr 0) (ad_cons (vr 3) ad_nil)))) (ad_cons (pd_op opd_add pd_int (pd_fn F_w_dip (hr.mono (by decide)) tkF (ad_cons (vr 0) (ad_cons (vr 3) ad_nil)))) (ad_cons (vr 5) ad_nil)))))))))))) hk
abbrev P_is_next_host : List Str := ["value", "points", "hosts"]
theorem sc_is_next_host : FnScope N_is_next_host P_is_next_host (defScope s_is_next_host) := ⟨rfl, rfl, rfl, by decide +kernel, rfl, by decide +kernel, by decide +kernel⟩
theorem ok_is_next_host {P : Program} {w : World} {K : PySem.W.Frag} {mg : Str → Option Value} {base : Heap} {C f : Addr} {fd : FuncData} (T : Tx K mg C) (F_are_free_marks : Fok P w K mg base "are_free_marks" 3 3 (sd_are_free_marks C)) (F_is_free_name : Fok P w K mg base "is_free_name" 2 2 (sd_is_free_name C)) (F_is_name : Fok P w K mg base "is_name" 1 1 (sd_is_name C))
    (F : FunD K "is_next_host" "is_next_host" (defArgs s_is_next_host) (defBody s_is_next_host) (defScope s_is_next_host) [] [] f fd) (hk : Keeps N_is_next_host 3 (sd_is_next_host C) (db_is_next_host C)) : FnOk P w K mg base (L2.CX P w) 4 f fd P_is_next_host (spOf K 3 (sd_is_next_host C)) := 
  okD F sc_is_next_host rfl (fun cdv A fr s H E hr => (bd_cons (sd_if (td_w (wd_or (td_not (td_tru (pd_isi (vr 0) T.isinstance T.tuple (by decide +kernel)))) (wd_or1 (td_cmp (opd_ne hr.units) (pd_callB (cd_len) (by rfl) T.len (by decide +kernel) (ad_cons (vr 0) ad_nil)) pd_int (nomark _))))) (bd_one (sd_ret pd_bl)) bd_nil)
      (bd_cons (sd_asg (vr 0) (gd_tup (n := 3) rfl (gds_cons (gd_name (i := 3) sc_is_next_host.nd) (gds_cons (gd_name (i := 4) sc_is_next_host.nd) (gds_cons (gd_name (i := 5) sc_is_next_host.nd) gds_nil)))))
      (bd_one (sd_ret (pd_and (pd_fn F_is_free_name (hr.mono (by decide)) tkF (ad_cons (vr 3) (ad_cons (vr 2) ad_nil))) (pd_and (pd_fn F_is_name (hr.mono (by decide)) tkF (ad_cons (vr 4) ad_nil)) (pd_one (pd_fn F_are_free_marks (hr.mono (by decide)) tkF (ad_cons (vr 5) (ad_cons (vr 1) (ad_cons (vr 2) ad_nil)))))))))))) hk
abbrev P_keepers_in : List Str := ["ring", "walk"]
theorem sc_keepers_in : FnScope N_keepers_in P_keepers_in (defScope s_keepers_in) := ⟨rfl, rfl, rfl, by decide +kernel, rfl, by decide +kernel, by decide +kernel⟩
theorem ok_keepers_in {P : Program} {w : World} {K : PySem.W.Frag} {mg : Str → Option Value} {base : Heap} {C f : Addr} {fd : FuncData} (T : Tx K mg C) (P_Ring_factor : Pok P w K mg base C "factor" 1 (sd_Ring_factor C)) (P_Ring_spread : Pok P w K mg base C "spread" 1 (sd_Ring_spread C)) (F_new_racks_first : Fok P w K mg base "new_racks_first" 3 2 (sd_new_racks_first C))
    (F : FunD K "keepers_in" "keepers_in" (defArgs s_keepers_in) (defBody s_keepers_in) (defScope s_keepers_in) [] [] f fd) (hk : Keeps N_keepers_in 2 (sd_keepers_in C) (db_keepers_in C)) : FnOk P w K mg base (L2.CX P w) 4 f fd P_keepers_in (spOf K 2 (sd_keepers_in C)) := 
  okD F sc_keepers_in rfl (fun cdv A fr s H E hr => (bd_cons (sd_set 2 sc_keepers_in.nd (pd_if (td_cmp (opd_eq hr.units) (pd_prop P_Ring_spread (hr.mono (by decide)) (vr 0)) pd_str (nomark _)) (pd_fn F_new_racks_first (hr.mono (by decide)) tkF (ad_cons (vr 0) (ad_cons (vr 1) ad_nil))) (vr 1)))
      (bd_one (sd_ret (pd_slice sld (vr 2) od_no (od_some (pd_prop P_Ring_factor (hr.mono (by decide)) (vr 0)))))))) hk
abbrev P_Ring_walk : List Str := ["self", "point"]
theorem sc_Ring_walk : FnScope N_Ring_walk P_Ring_walk (defScope s_Ring_walk) := ⟨rfl, rfl, rfl, by decide +kernel, rfl, by decide +kernel, by decide +kernel⟩
theorem ok_Ring_walk {P : Program} {w : World} {K : PySem.W.Frag} {mg : Str → Option Value} {base : Heap} {C f : Addr} {fd : FuncData} (T : Tx K mg C) (F_Ring__way : Mok P w K mg base C "_way" 1 3 (sd_Ring__way C)) (F_check_point : Fok P w K mg base "check_point" 3 2 (sd_check_point C))
    (F : FunD K "walk" "Ring.walk" (defArgs s_Ring_walk) (defBody s_Ring_walk) (defScope s_Ring_walk) [] [] f fd) (hk : Keeps N_Ring_walk 2 (sd_Ring_walk C) (db_Ring_walk C)) : FnOk P w K mg base (L2.CX P w) 4 f fd P_Ring_walk (spOf K 2 (sd_Ring_walk C)) := 
  okD F sc_Ring_walk rfl (fun cdv A fr s H E hr => (bd_cons (sd_expr (pd_fn F_check_point (hr.mono (by decide)) tkF (ad_cons (vr 0) (ad_cons (vr 1) ad_nil))))
      (bd_cons (sd_set 2 sc_Ring_walk.nd (pd_callB (cd_sortP) (by rfl) T.sorted (by decide +kernel) (ad_cons (pd_lc (own := [("host", 3)]) rfl sc_Ring_walk.nd (id_seq (pd_fld (vr 0) T.cRing (T.na "_hosts" (by decide)))) (blkOk_by (N := N_Ring_walk) (sc := (defScope s_Ring_walk)) (by decide +kernel)) (fun _ _ _ _ _ => (gw_name (i := 3) sc_Ring_walk.nd)) (fun _ _ _ _ _ => tsd_nil) (fun _ _ _ _ _ => (pd_tup (ad_cons (pd_meth F_Ring__way (hr.mono (by decide)) takes0 (vr 0) (ad_cons (vr 1) (ad_cons (pd_ix ixd (vr 3) pd_int (fun _ _ => rfl)) ad_nil))) (ad_cons (pd_ix ixd (vr 3) pd_int (fun _ _ => rfl)) ad_nil))))) ad_nil)))
      (bd_one (sd_ret (pd_callTy (cd_tuple) (by rfl) T.tuple (by decide +kernel) (ad_cons (pd_lc (own := [("_", 4), ("name", 5)]) rfl sc_Ring_walk.nd (id_seq (vr 2)) (blkOk_by (N := N_Ring_walk) (sc := (defScope s_Ring_walk)) (by decide +kernel)) (fun _ _ _ _ _ => (gw_tup (n := 2) rfl (gws_cons (gw_name (i := 4) sc_Ring_walk.nd) (gws_cons (gw_name (i := 5) sc_Ring_walk.nd) gws_nil)))) (fun _ _ _ _ _ => tsd_nil) (fun _ _ _ _ _ => (vr 5))) ad_nil))))))) hk
abbrev P_check_name : List Str := ["ring", "name"]
theorem sc_check_name : FnScope N_check_name P_check_name (defScope s_check_name) := ⟨rfl, rfl, rfl, by decide +kernel, rfl, by decide +kernel, by decide +kernel⟩
theorem ok_check_name {P : Program} {w : World} {K : PySem.W.Frag} {mg : Str → Option Value} {base : Heap} {C f : Addr} {fd : FuncData} (T : Tx K mg C) (F_Ring___contains__ : Mok P w K mg base C "__contains__" 3 2 (sd_Ring___contains__ C))
    (F : FunD K "check_name" "check_name" (defArgs s_check_name) (defBody s_check_name) (defScope s_check_name) [] [] f fd) (hk : Keeps N_check_name 2 (sd_check_name C) (db_check_name C)) : FnOk P w K mg base (L2.CX P w) 4 f fd P_check_name (spOf K 2 (sd_check_name C)) := 
  okD F sc_check_name rfl (fun cdv A fr s H E hr => (bd_one (sd_if (td_cmp (opd_niO F_Ring___contains__ (hr.mono (by decide))) (vr 1) (vr 0) (by rfl)) (bd_one sd_never) bd_nil))) hk
abbrev P_w_small : List Str := ["_law_well_here", "_law_least", "_law_most", "_law_many", "_law_each"]
theorem sc_w_small : FnScope N_w_small P_w_small (defScope s_w_small) := ⟨rfl, rfl, rfl, by decide +kernel, rfl, by decide +kernel, by decide +kernel⟩
theorem ok_w_small {P : Program} {w : World} {K : PySem.W.Frag} {mg : Str → Option Value} {base : Heap} {C f : Addr} {fd : FuncData} (T : Tx K mg C) (F_w_dip : Fok P w K mg base "_law_dip" 1 2 (sd_w_dip C)) (F_w_hosts : Fok P w K mg base "_law_hosts" 3 5 (sd_w_hosts C)) (F_w_names : Fok P w K mg base "_law_names" 2 1 (sd_w_names C)) (F_w_rules : Fok P w K mg base "_law_rules" 3 3 (sd_w_rules C)) (F_w_slots : Fok P w K mg base "_law_slots" 1 1 (sd_w_slots C))
    (F : FunD K "_law_small" "_law_small" (defArgs s_w_small) (defBody s_w_small) (defScope s_w_small) [] [] f fd) (hk : Keeps N_w_small 5 (sd_w_small C) (db_w_small C)) : FnOk P w K mg base (L2.CX P w) 4 f fd P_w_small (spOf K 5 (sd_w_small C)) := 
  okD F sc_w_small rfl (fun cdv A fr s H E hr => (bd_cons (sd_set 5 sc_w_small.nd (pd_fn F_w_rules (hr.mono (by decide)) tkF (ad_cons (vr 0) (ad_cons (pd_op opd_add (vr 1) (pd_fn F_w_dip (hr.mono (by decide)) tkF (ad_cons (vr 0) (ad_cons (pd_op opd_add (pd_op opd_sub (vr 2) (vr 1)) pd_int) ad_nil)))) (ad_cons pd_int ad_nil)))))
      (bd_cons (sd_par2 6 7 rfl sc_w_small.nd (ad_cons (pd_fn F_w_slots (hr.mono (by decide)) tkF (ad_cons (pd_ix ixd (vr 5) pd_int (fun _ _ => rfl)) ad_nil)) (ad_cons (pd_fn F_w_names (hr.mono (by decide)) tkF (ad_cons (vr 0) ad_nil)) ad_nil)))
      (bd_one (sd_ret (pd_tup (ad_cons (vr 5) (ad_cons (pd_fn F_w_hosts (hr.mono (by decide)) tkF (ad_cons (vr 0) (ad_cons (vr 6) (ad_cons (vr 7) (ad_cons (pd_op opd_add pd_int (pd_fn F_w_dip (hr.mono (by decide)) tkF (ad_cons (vr 0) (ad_cons (vr 3) ad_nil)))) (ad_cons (vr 4) ad_nil)))))) (ad_cons (vr 7) (ad_cons (vr 6) ad_nil)))))))))) hk
abbrev P_check_hosts : List Str := ["points", "hosts"]
theorem sc_check_hosts : FnScope N_check_hosts P_check_hosts (defScope s_check_hosts) := ⟨rfl, rfl, rfl, by decide +kernel, rfl, by decide +kernel, by decide +kernel⟩
theorem ok_check_hosts {P : Program} {w : World} {K : PySem.W.Frag} {mg : Str → Option Value} {base : Heap} {C f : Addr} {fd : FuncData} (T : Tx K mg C) (F_is_next_host : Fok P w K mg base "is_next_host" 4 3 (sd_is_next_host C))
    (F : FunD K "check_hosts" "check_hosts" (defArgs s_check_hosts) (defBody s_check_hosts) (defScope s_check_hosts) [] [] f fd) (hk : Keeps N_check_hosts 2 (sd_check_hosts C) (db_check_hosts C)) : FnOk P w K mg base (L2.CX P w) 5 f fd P_check_hosts (spOf K 2 (sd_check_hosts C)) := 
  okD F sc_check_hosts rfl (fun cdv A fr s H E hr => (bd_cons (sd_if (td_w (wd_or (td_not (td_tru (pd_isi (vr 1) T.isinstance T.tuple (by decide +kernel)))) (wd_or1 (td_cmp (opd_eq hr.units) (pd_callB (cd_len) (by rfl) T.len (by decide +kernel) (ad_cons (vr 1) ad_nil)) pd_int (nomark _))))) (bd_one sd_never) bd_nil)
      (bd_one (sd_for poF rfl (id_enum (by rfl) T.enumerate (ad_cons (vr 1) ad_nil)) (gd_tup (n := 2) rfl (gds_cons (gd_name (i := 2) sc_check_hosts.nd) (gds_cons (gd_name (i := 3) sc_check_hosts.nd) gds_nil))) (bd_one (sd_if (td_w (wd_or (td_cmp (opd_eq hr.units) (vr 2) (pd_cint T.c_MOST_HOSTS) (nomark _)) (wd_or1 (td_not (td_tru (pd_fn F_is_next_host (hr.mono (by decide)) tkF (ad_cons (vr 3) (ad_cons (vr 0) (ad_cons (pd_slice sld (vr 1) od_no (od_some (vr 2))) ad_nil))))))))) (bd_one sd_never) bd_nil)))))) hk
abbrev P_walks : List Str := ["ring"]
theorem sc_walks : FnScope N_walks P_walks (defScope s_walks) := ⟨rfl, rfl, rfl, by decide +kernel, rfl, by decide +kernel, by decide +kernel⟩
theorem ok_walks {P : Program} {w : World} {K : PySem.W.Frag} {mg : Str → Option Value} {base : Heap} {C f : Addr} {fd : FuncData} (T : Tx K mg C) (P_Ring_hosts : Pok P w K mg base C "hosts" 1 (sd_Ring_hosts C)) (F_Ring_walk : Mok P w K mg base C "walk" 4 2 (sd_Ring_walk C)) (F_ahead : Fok P w K mg base "ahead" 1 2 (sd_ahead C))
    (F : FunD K "walks" "walks" (defArgs s_walks) (defBody s_walks) (defScope s_walks) [] [] f fd) (hk : Keeps N_walks 1 (sd_walks C) (db_walks C)) : FnOk P w K mg base (L2.CX P w) 5 f fd P_walks (spOf K 1 (sd_walks C)) := 
  okD F sc_walks rfl (fun cdv A fr s H E hr => (bd_cons (sd_set 1 sc_walks.nd (pd_sortPR (by rfl) T.sorted (pd_lc2 (own := [("name", 5), ("_", 6), ("marks", 7), ("mark", 4)]) (vs1 := [4]) rfl sc_walks.nd (id_seq (pd_prop P_Ring_hosts (hr.mono (by decide)) (vr 0))) (blkOk_by (N := N_walks) (sc := (defScope s_walks)) (by decide +kernel)) (by decide) (fun _ _ _ _ _ => (gw_tup (n := 3) rfl (gws_cons (gw_name (i := 5) sc_walks.nd) (gws_cons (gw_name (i := 6) sc_walks.nd) (gws_cons (gw_name (i := 7) sc_walks.nd) gws_nil))))) (fun _ _ _ _ _ => tsd_nil) (fun _ _ _ _ _ => (id_seq (vr 7))) (fun _ _ _ _ _ => (gw_name (i := 4) sc_walks.nd)) (fun _ _ _ _ _ => tsd_nil) (fun _ _ _ _ _ => (pd_tup (ad_cons (vr 4) (ad_cons (vr 5) ad_nil)))))))
      (bd_cons (sd_set 2 sc_walks.nd (pd_meth F_Ring_walk (hr.mono (by decide)) tkF (vr 0) (ad_cons (pd_ix ixd (pd_ix ixd (vr 1) pd_int (fun _ _ => rfl)) pd_int (fun _ _ => rfl)) ad_nil)))
      (bd_cons (sd_set 3 sc_walks.nd (pd_lstC ad_nil))
      (bd_cons (sd_for poF rfl (id_seq (vr 1)) (gd_tup (n := 2) rfl (gds_cons (gd_name (i := 4) sc_walks.nd) (gds_cons (gd_name (i := 5) sc_walks.nd) gds_nil))) (bd_cons (sd_set 2 sc_walks.nd (pd_fn F_ahead (hr.mono (by decide)) tkF (ad_cons (vr 5) (ad_cons (vr 2) ad_nil))))
      (bd_one (sd_expr (pd_app (vr 3) (ad_cons (pd_tup (ad_cons (vr 4) (ad_cons (vr 2) ad_nil))) ad_nil))))))
      (bd_one (sd_ret (pd_revL (vr 3))))))))) hk
abbrev P_Ring___init__ : List Str := ["self", "points", "factor", "spread", "write", "read", "pending", "hosts"]
theorem sc_Ring___init__ : FnScope N_Ring___init__ P_Ring___init__ (defScope s_Ring___init__) := ⟨rfl, rfl, rfl, by decide +kernel, rfl, by decide +kernel, by decide +kernel⟩
theorem ok_Ring___init__ {P : Program} {w : World} {K : PySem.W.Frag} {mg : Str → Option Value} {base : Heap} {C f : Addr} {fd : FuncData} (T : Tx K mg C) (F_check_hosts : Fok P w K mg base "check_hosts" 5 2 (sd_check_hosts C)) (F_is_from_to : Fok P w K mg base "is_from_to" 2 3 (sd_is_from_to C)) (F_is_word_of : Fok P w K mg base "is_word_of" 1 2 (sd_is_word_of C))
    (F : FunD K "__init__" "Ring.__init__" (defArgs s_Ring___init__) (defBody s_Ring___init__) (defScope s_Ring___init__) [] [] f fd) (hk : Keeps N_Ring___init__ 8 (sd_Ring___init__ C) (db_Ring___init__ C)) : FnOk P w K mg base (L2.CX P w) 6 f fd P_Ring___init__ (spOf K 8 (sd_Ring___init__ C)) := 
  okD F sc_Ring___init__ rfl (fun cdv A fr s H E hr => (bd_cons (sd_if (td_not (td_tru (pd_fn F_is_from_to (hr.mono (by decide)) tkF (ad_cons (vr 1) (ad_cons pd_int (ad_cons (pd_cint T.c_MOST_POINTS) ad_nil)))))) (bd_one sd_never) bd_nil)
      (bd_cons (sd_if (td_not (td_tru (pd_fn F_is_from_to (hr.mono (by decide)) tkF (ad_cons (vr 2) (ad_cons pd_int (ad_cons (pd_cint T.c_MOST_FACTOR) ad_nil)))))) (bd_one sd_never) bd_nil)
      (bd_cons (sd_if (td_not (td_tru (pd_fn F_is_word_of (hr.mono (by decide)) tkF (ad_cons (vr 3) (ad_cons (pd_ctup T.c_SPREADS) ad_nil))))) (bd_one sd_never) bd_nil)
      (bd_cons (sd_if (td_not (td_tru (pd_fn F_is_from_to (hr.mono (by decide)) tkF (ad_cons (vr 4) (ad_cons pd_int (ad_cons (vr 2) ad_nil)))))) (bd_one sd_never) bd_nil)
      (bd_cons (sd_if (td_not (td_tru (pd_fn F_is_from_to (hr.mono (by decide)) tkF (ad_cons (vr 5) (ad_cons pd_int (ad_cons (vr 2) ad_nil)))))) (bd_one sd_never) bd_nil)
      (bd_cons (sd_if (td_not (td_tru (pd_fn F_is_word_of (hr.mono (by decide)) tkF (ad_cons (vr 6) (ad_cons (pd_ctup T.c_PENDINGS) ad_nil))))) (bd_one sd_never) bd_nil)
      (bd_cons (sd_expr (pd_fn F_check_hosts (hr.mono (by decide)) tkF (ad_cons (vr 1) (ad_cons (vr 7) ad_nil))))
      (bd_cons (sd_fset (vr 0) T.cRing (T.na "_points" (by decide)) (vr 1))
      (bd_cons (sd_fset (vr 0) T.cRing (T.na "_factor" (by decide)) (vr 2))
      (bd_cons (sd_fset (vr 0) T.cRing (T.na "_spread" (by decide)) (vr 3))
      (bd_cons (sd_fset (vr 0) T.cRing (T.na "_write" (by decide)) (vr 4))
      (bd_cons (sd_fset (vr 0) T.cRing (T.na "_read_number" (by decide)) (vr 5))
      (bd_cons (sd_fset (vr 0) T.cRing (T.na "_pending" (by decide)) (vr 6))
      (bd_one (sd_fset (vr 0) T.cRing (T.na "_hosts" (by decide)) (vr 7))))))))))))))))) hk
abbrev P_keepers_at : List Str := ["ring", "marks"]
theorem sc_keepers_at : FnScope N_keepers_at P_keepers_at (defScope s_keepers_at) := ⟨rfl, rfl, rfl, by decide +kernel, rfl, by decide +kernel, by decide +kernel⟩
theorem ok_keepers_at {P : Program} {w : World} {K : PySem.W.Frag} {mg : Str → Option Value} {base : Heap} {C f : Addr} {fd : FuncData} (T : Tx K mg C) (F_keepers_in : Fok P w K mg base "keepers_in" 4 2 (sd_keepers_in C)) (F_walks : Fok P w K mg base "walks" 5 1 (sd_walks C))
    (F : FunD K "keepers_at" "keepers_at" (defArgs s_keepers_at) (defBody s_keepers_at) (defScope s_keepers_at) [] [] f fd) (hk : Keeps N_keepers_at 2 (sd_keepers_at C) (db_keepers_at C)) : FnOk P w K mg base (L2.CX P w) 6 f fd P_keepers_at (spOf K 2 (sd_keepers_at C)) := 
  okD F sc_keepers_at rfl (fun cdv A fr s H E hr => (bd_cons (sd_setLc 2 (own := [("mark", 6), ("walk", 7)]) rfl sc_keepers_at.nd (sw_true rfl rfl rfl (by decide +kernel)) (id_seq (pd_fn F_walks (hr.mono (by decide)) tkF (ad_cons (vr 0) ad_nil))) (blkOk_by (N := N_keepers_at) (sc := (defScope s_keepers_at)) (by decide +kernel)) (fun _ _ _ _ _ => (gw_tup (n := 2) rfl (gws_cons (gw_name (i := 6) sc_keepers_at.nd) (gws_cons (gw_name (i := 7) sc_keepers_at.nd) gws_nil)))) (fun _ _ _ _ _ => tsd_nil) (fun _ _ _ _ _ => (pd_tup (ad_cons (vr 6) (ad_cons (pd_fn F_keepers_in (hr.mono (by decide)) takes0 (ad_cons (vr 0) (ad_cons (vr 7) ad_nil))) ad_nil)))))
      (bd_cons (sd_set 3 sc_keepers_at.nd (pd_callTy (cd_dictC rfl) (by rfl) T.dict (by decide +kernel) (ad_cons (vr 2) ad_nil)))
      (bd_cons (sd_set 4 sc_keepers_at.nd (pd_ix ixd (pd_ix ixd (vr 2) pd_int (fun _ _ => rfl)) pd_int (fun _ _ => rfl)))
      (bd_cons (sd_set 5 sc_keepers_at.nd (pd_lstC ad_nil))
      (bd_cons (sd_for poF rfl (id_rev (by rfl) T.reversed (pd_callTy (cd_list) (by rfl) T.list (by decide +kernel) (ad_cons (vr 1) ad_nil))) (gd_name (i := 6) sc_keepers_at.nd) (bd_cons (sd_set 4 sc_keepers_at.nd (pd_dget2 (hu_of hr) (vr 3) (vr 6) (vr 4) ⟨by rfl, by rfl, by rfl, by rfl⟩))
      (bd_one (sd_expr (pd_app (vr 5) (ad_cons (vr 4) ad_nil))))))
      (bd_one (sd_ret (pd_revL (vr 5)))))))))) hk
abbrev P_cells : List Str := ["ring"]
theorem sc_cells : FnScope N_cells P_cells (defScope s_cells) := ⟨rfl, rfl, rfl, by decide +kernel, rfl, by decide +kernel, by decide +kernel⟩
theorem ok_cells {P : Program} {w : World} {K : PySem.W.Frag} {mg : Str → Option Value} {base : Heap} {C f : Addr} {fd : FuncData} (T : Tx K mg C) (P_Ring_hosts : Pok P w K mg base C "hosts" 1 (sd_Ring_hosts C)) (P_Ring_points : Pok P w K mg base C "points" 1 (sd_Ring_points C)) (F_all_marks : Fok P w K mg base "all_marks" 1 1 (sd_all_marks C)) (F_arcs_up_to : Fok P w K mg base "arcs_up_to" 1 2 (sd_arcs_up_to C)) (F_check_ring : Fok P w K mg base "check_ring" 1 1 (sd_check_ring C)) (F_keepers_at : Fok P w K mg base "keepers_at" 6 2 (sd_keepers_at C))
    (F : FunD K "cells" "cells" (defArgs s_cells) (defBody s_cells) (defScope s_cells) [] [] f fd) (hk : Keeps N_cells 1 (sd_cells C) (db_cells C)) : FnOk P w K mg base (L2.CX P w) 7 f fd P_cells (spOf K 1 (sd_cells C)) := 
  okD F sc_cells rfl (fun cdv A fr s H E hr => (bd_cons (sd_expr (pd_fn F_check_ring (hr.mono (by decide)) tkF (ad_cons (vr 0) ad_nil)))
      (bd_cons (sd_set 1 sc_cells.nd (pd_fn F_all_marks (hr.mono (by decide)) tkF (ad_cons (pd_prop P_Ring_hosts (hr.mono (by decide)) (vr 0)) ad_nil)))
      (bd_cons (sd_set 2 sc_cells.nd (pd_fn F_arcs_up_to (hr.mono (by decide)) tkF (ad_cons (vr 1) (ad_cons (pd_prop P_Ring_points (hr.mono (by decide)) (vr 0)) ad_nil))))
      (bd_one (sd_ret (pd_callTy (cd_tuple) (by rfl) T.tuple (by decide +kernel) (ad_cons (pd_lc (own := [("keepers", 5), ("first", 3), ("many", 4)]) rfl sc_cells.nd (id_zip (by rfl) T.zip (ad_cons (vr 2) (ad_cons (pd_fn F_keepers_at (hr.mono (by decide)) tkF (ad_cons (vr 0) (ad_cons (vr 1) ad_nil))) ad_nil))) (blkOk_by (N := N_cells) (sc := (defScope s_cells)) (by decide +kernel)) (fun _ _ _ _ _ => (gw_tup (n := 2) rfl (gws_cons (gw_tup (n := 2) rfl (gws_cons (gw_name (i := 3) sc_cells.nd) (gws_cons (gw_name (i := 4) sc_cells.nd) gws_nil))) (gws_cons (gw_name (i := 5) sc_cells.nd) gws_nil)))) (fun _ _ _ _ _ => tsd_nil) (fun _ _ _ _ _ => (pd_tup (ad_cons (vr 3) (ad_cons (vr 4) (ad_cons (vr 5) ad_nil)))))) ad_nil)))))))) hk
abbrev P_w_made : List Str := ["_law_rules_here", "_law_hosts_here"]
theorem sc_w_made : FnScope N_w_made P_w_made (defScope s_w_made) := ⟨rfl, rfl, rfl, by decide +kernel, rfl, by decide +kernel, by decide +kernel⟩
theorem ok_w_made {P : Program} {w : World} {K : PySem.W.Frag} {mg : Str → Option Value} {base : Heap} {C f : Addr} {fd : FuncData} (T : Tx K mg C) (F_Ring : Kok P w K mg base "Ring" C 6 8 (sd_Ring___init__ C))
    (F : FunD K "_law_made" "_law_made" (defArgs s_w_made) (defBody s_w_made) (defScope s_w_made) [] [] f fd) (hk : Keeps N_w_made 2 (sd_w_made C) (db_w_made C)) : FnOk P w K mg base (L2.CX P w) 8 f fd P_w_made (spOf K 2 (sd_w_made C)) := 
  okD F sc_w_made rfl (fun cdv A fr s H E hr => (bd_one (sd_ret (pd_make F_Ring (hr.mono (by decide)) tkF (ad_cons (pd_ix ixd (vr 0) pd_int (fun _ _ => rfl)) (ad_cons (pd_ix ixd (vr 0) pd_int (fun _ _ => rfl)) (ad_cons (pd_ix ixd (vr 0) pd_int (fun _ _ => rfl)) (ad_cons (pd_ix ixd (vr 0) pd_int (fun _ _ => rfl)) (ad_cons (pd_ix ixd (vr 0) pd_int (fun _ _ => rfl)) (ad_cons (pd_ix ixd (vr 0) pd_int (fun _ _ => rfl)) (ad_cons (vr 1) ad_nil))))))))))) hk
abbrev P_breach : List Str := ["ring", "kind", "down", "left"]
theorem sc_breach : FnScope N_breach P_breach (defScope s_breach) := ⟨rfl, rfl, rfl, by decide +kernel, rfl, by decide +kernel, by decide +kernel⟩
theorem ok_breach {P : Program} {w : World} {K : PySem.W.Frag} {mg : Str → Option Value} {base : Heap} {C f : Addr} {fd : FuncData} (T : Tx K mg C) (F_Ring___getitem__ : Mok P w K mg base C "__getitem__" 1 2 (sd_Ring___getitem__ C)) (F_cells : Fok P w K mg base "cells" 7 1 (sd_cells C)) (F_check_ring : Fok P w K mg base "check_ring" 1 1 (sd_check_ring C)) (F_is_from_to : Fok P w K mg base "is_from_to" 2 3 (sd_is_from_to C)) (F_is_word_of : Fok P w K mg base "is_word_of" 1 2 (sd_is_word_of C)) (F_worst_fall : Fok P w K mg base "worst_fall" 1 2 (sd_worst_fall C))
    (F : FunD K "breach" "breach" (defArgs s_breach) (defBody s_breach) (defScope s_breach) [] [] f fd) (hk : Keeps N_breach 4 (sd_breach C) (db_breach C)) : FnOk P w K mg base (L2.CX P w) 8 f fd P_breach (spOf K 4 (sd_breach C)) := 
  okD F sc_breach rfl (fun cdv A fr s H E hr => (bd_cons (sd_expr (pd_fn F_check_ring (hr.mono (by decide)) tkF (ad_cons (vr 0) ad_nil)))
      (bd_cons (sd_if (td_not (td_tru (pd_fn F_is_word_of (hr.mono (by decide)) tkF (ad_cons (vr 1) (ad_cons (pd_ctup T.c_KINDS) ad_nil))))) (bd_one sd_never) bd_nil)
      (bd_cons (sd_if (td_not (td_tru (pd_fn F_is_from_to (hr.mono (by decide)) tkF (ad_cons (vr 2) (ad_cons pd_int (ad_cons (pd_cint T.c_MOST_HOSTS) ad_nil)))))) (bd_one sd_never) bd_nil)
      (bd_cons (sd_if (td_not (td_tru (pd_fn F_is_from_to (hr.mono (by decide)) tkF (ad_cons (vr 3) (ad_cons pd_int (ad_cons (pd_cint T.c_MOST_FACTOR) ad_nil)))))) (bd_one sd_never) bd_nil)
      (bd_cons (sd_for poF rfl (id_seq (pd_fn F_cells (hr.mono (by decide)) tkF (ad_cons (vr 0) ad_nil))) (gd_tup (n := 3) rfl (gds_cons (gd_name (i := 4) sc_breach.nd) (gds_cons (gd_name (i := 5) sc_breach.nd) (gds_cons (gd_name (i := 6) sc_breach.nd) gds_nil)))) (bd_cons (sd_setLc 7 (own := [("name", 9)]) rfl sc_breach.nd (sw_true rfl rfl rfl (by decide +kernel)) (id_seq (vr 6)) (blkOk_by (N := N_breach) (sc := (defScope s_breach)) (by decide +kernel)) (fun _ _ _ _ _ => (gw_name (i := 9) sc_breach.nd)) (fun _ _ _ _ _ => tsd_nil) (fun _ _ _ _ _ => (pd_if (td_cmp (opd_eq hr.units) (vr 1) pd_str (nomark _)) (vr 9) (pd_ix ixd (pd_item F_Ring___getitem__ (hr.mono (by decide)) takes0 (vr 0) (vr 9)) pd_int (fun _ _ => rfl)))))
      (bd_cons (sd_set 8 sc_breach.nd (pd_fn F_worst_fall (hr.mono (by decide)) tkF (ad_cons (vr 7) (ad_cons (vr 2) ad_nil))))
      (bd_one (sd_if (td_cmp opd_lt (pd_callB (cd_len) (by rfl) T.len (by decide +kernel) (ad_cons (pd_lc (own := [("home", 10)]) rfl sc_breach.nd (id_seq (vr 7)) (blkOk_by (N := N_breach) (sc := (defScope s_breach)) (by decide +kernel)) (fun _ _ _ _ _ => (gw_name (i := 10) sc_breach.nd)) (fun _ _ _ _ _ => (tsd_one (td_cmp opd_ni (vr 10) (vr 8) (by rfl)))) (fun _ _ _ _ _ => (vr 10))) ad_nil)) (vr 3) (nomark _)) (bd_one (sd_ret (pd_tup (ad_cons (vr 4) (ad_cons (vr 8) ad_nil))))) bd_nil)))))
      (bd_one (sd_ret pd_non)))))))) hk
abbrev P_kept : List Str := ["ring", "name"]
theorem sc_kept : FnScope N_kept P_kept (defScope s_kept) := ⟨rfl, rfl, rfl, by decide +kernel, rfl, by decide +kernel, by decide +kernel⟩
theorem ok_kept {P : Program} {w : World} {K : PySem.W.Frag} {mg : Str → Option Value} {base : Heap} {C f : Addr} {fd : FuncData} (T : Tx K mg C) (F_cells : Fok P w K mg base "cells" 7 1 (sd_cells C)) (F_check_name : Fok P w K mg base "check_name" 4 2 (sd_check_name C)) (F_check_ring : Fok P w K mg base "check_ring" 1 1 (sd_check_ring C))
    (F : FunD K "kept" "kept" (defArgs s_kept) (defBody s_kept) (defScope s_kept) [] [] f fd) (hk : Keeps N_kept 2 (sd_kept C) (db_kept C)) : FnOk P w K mg base (L2.CX P w) 8 f fd P_kept (spOf K 2 (sd_kept C)) := 
  okD F sc_kept rfl (fun cdv A fr s H E hr => (bd_cons (sd_expr (pd_fn F_check_ring (hr.mono (by decide)) tkF (ad_cons (vr 0) ad_nil)))
      (bd_cons (sd_expr (pd_fn F_check_name (hr.mono (by decide)) tkF (ad_cons (vr 0) (ad_cons (vr 1) ad_nil))))
      (bd_one (sd_ret (pd_callB (cd_sum rfl) (by rfl) T.sum (by decide +kernel) (ad_cons (pd_lc (own := [("_", 2), ("many", 3), ("keepers", 4)]) rfl sc_kept.nd (id_seq (pd_fn F_cells (hr.mono (by decide)) tkF (ad_cons (vr 0) ad_nil))) (blkOk_by (N := N_kept) (sc := (defScope s_kept)) (by decide +kernel)) (fun _ _ _ _ _ => (gw_tup (n := 3) rfl (gws_cons (gw_name (i := 2) sc_kept.nd) (gws_cons (gw_name (i := 3) sc_kept.nd) (gws_cons (gw_name (i := 4) sc_kept.nd) gws_nil))))) (fun _ _ _ _ _ => (tsd_one (td_cmp opd_in (vr 1) (vr 4) (by rfl)))) (fun _ _ _ _ _ => (vr 3))) ad_nil))))))) hk
abbrev P_thin_key : List Str := ["ring", "many"]
theorem sc_thin_key : FnScope N_thin_key P_thin_key (defScope s_thin_key) := ⟨rfl, rfl, rfl, by decide +kernel, rfl, by decide +kernel, by decide +kernel⟩
theorem ok_thin_key {P : Program} {w : World} {K : PySem.W.Frag} {mg : Str → Option Value} {base : Heap} {C f : Addr} {fd : FuncData} (T : Tx K mg C) (P_Ring_hosts : Pok P w K mg base C "hosts" 1 (sd_Ring_hosts C)) (F_cells : Fok P w K mg base "cells" 7 1 (sd_cells C))
    (F : FunD K "thin_key" "thin_key" (defArgs s_thin_key) (defBody s_thin_key) (defScope s_thin_key) [] [] f fd) (hk : Keeps N_thin_key 2 (sd_thin_key C) (db_thin_key C)) : FnOk P w K mg base (L2.CX P w) 8 f fd P_thin_key (spOf K 2 (sd_thin_key C)) := 
  okD F sc_thin_key rfl (fun cdv A fr s H E hr => (bd_cons (sd_set 2 sc_thin_key.nd (pd_dc (own := [("name", 6), ("rack", 7), ("_", 4)]) rfl sc_thin_key.nd (id_seq (pd_prop P_Ring_hosts (hr.mono (by decide)) (vr 0))) (blkOk_by (N := N_thin_key) (sc := (defScope s_thin_key)) (by decide +kernel)) (fun _ _ _ _ _ => (gw_tup (n := 3) rfl (gws_cons (gw_name (i := 6) sc_thin_key.nd) (gws_cons (gw_name (i := 7) sc_thin_key.nd) (gws_cons (gw_name (i := 4) sc_thin_key.nd) gws_nil))))) (fun _ _ _ _ _ => tsd_nil) (fun _ _ _ _ _ => (vr 6)) (fun _ _ _ _ _ => (vr 7))))
      (bd_cons (sd_for poF rfl (id_seq (pd_fn F_cells (hr.mono (by decide)) tkF (ad_cons (vr 0) ad_nil))) (gd_tup (n := 3) rfl (gds_cons (gd_name (i := 3) sc_thin_key.nd) (gds_cons (gd_name (i := 4) sc_thin_key.nd) (gds_cons (gd_name (i := 5) sc_thin_key.nd) gds_nil)))) (bd_one (sd_if (td_cmp opd_lt (pd_lenSetT rfl (by rfl) T.len (by rfl) T.set (pd_lc (own := [("name", 6)]) rfl sc_thin_key.nd (id_seq (vr 5)) (blkOk_by (N := N_thin_key) (sc := (defScope s_thin_key)) (by decide +kernel)) (fun _ _ _ _ _ => (gw_name (i := 6) sc_thin_key.nd)) (fun _ _ _ _ _ => tsd_nil) (fun _ _ _ _ _ => (pd_dget (hu_of hr) (vr 2) (vr 6) (fun _ _ => rfl))))) (vr 1) (nomark _)) (bd_one (sd_ret (vr 3))) bd_nil)))
      (bd_one (sd_ret pd_non))))) hk
abbrev P_bears : List Str := ["ring", "kind", "down", "left"]
theorem sc_bears : FnScope N_bears P_bears (defScope s_bears) := ⟨rfl, rfl, rfl, by decide +kernel, rfl, by decide +kernel, by decide +kernel⟩
theorem ok_bears {P : Program} {w : World} {K : PySem.W.Frag} {mg : Str → Option Value} {base : Heap} {C f : Addr} {fd : FuncData} (T : Tx K mg C) (F_breach : Fok P w K mg base "breach" 8 4 (sd_breach C))
    (F : FunD K "bears" "bears" (defArgs s_bears) (defBody s_bears) (defScope s_bears) [] [] f fd) (hk : Keeps N_bears 4 (sd_bears C) (db_bears C)) : FnOk P w K mg base (L2.CX P w) 9 f fd P_bears (spOf K 4 (sd_bears C)) := 
  okD F sc_bears rfl (fun cdv A fr s H E hr => (bd_one (sd_ret (pd_isN (pd_fn F_breach (hr.mono (by decide)) tkF (ad_cons (vr 0) (ad_cons (vr 1) (ad_cons (vr 2) (ad_cons (vr 3) ad_nil))))))))) hk
abbrev P_stands : List Str := ["ring", "wish"]
theorem sc_stands : FnScope N_stands P_stands (defScope s_stands) := ⟨rfl, rfl, rfl, by decide +kernel, rfl, by decide +kernel, by decide +kernel⟩
theorem ok_stands {P : Program} {w : World} {K : PySem.W.Frag} {mg : Str → Option Value} {base : Heap} {C f : Addr} {fd : FuncData} (T : Tx K mg C) (F_Ring___contains__ : Mok P w K mg base C "__contains__" 3 2 (sd_Ring___contains__ C)) (F_bears : Fok P w K mg base "bears" 9 4 (sd_bears C)) (F_check_ring : Fok P w K mg base "check_ring" 1 1 (sd_check_ring C)) (F_is_wish_for_ring : Fok P w K mg base "is_wish_for_ring" 3 1 (sd_is_wish_for_ring C)) (F_kept : Fok P w K mg base "kept" 8 2 (sd_kept C)) (F_thin_key : Fok P w K mg base "thin_key" 8 2 (sd_thin_key C))
    (F : FunD K "stands" "stands" (defArgs s_stands) (defBody s_stands) (defScope s_stands) [] [] f fd) (hk : Keeps N_stands 2 (sd_stands C) (db_stands C)) : FnOk P w K mg base (L2.CX P w) 10 f fd P_stands (spOf K 2 (sd_stands C)) := 
  okD F sc_stands rfl (fun cdv A fr s H E hr => (bd_cons (sd_expr (pd_fn F_check_ring (hr.mono (by decide)) tkF (ad_cons (vr 0) ad_nil)))
      (bd_cons (sd_if (td_not (td_tru (pd_fn F_is_wish_for_ring (hr.mono (by decide)) tkF (ad_cons (vr 1) ad_nil)))) (bd_one sd_never) bd_nil)
      (bd_cons (sd_if (td_cmp (opd_eq hr.units) (pd_ix ixd (vr 1) pd_int (fun _ _ => rfl)) pd_str (nomark _)) (bd_one (sd_ret (pd_isN (pd_fn F_thin_key (hr.mono (by decide)) tkF (ad_cons (vr 0) (ad_cons (pd_ix ixd (vr 1) pd_int (fun _ _ => rfl)) ad_nil)))))) bd_nil)
      (bd_cons (sd_if (td_cmp (opd_eq hr.units) (pd_ix ixd (vr 1) pd_int (fun _ _ => rfl)) pd_str (nomark _)) (bd_one (sd_ret (pd_and (pd_cmp (opd_inO F_Ring___contains__ (hr.mono (by decide))) (pd_ix ixd (vr 1) pd_int (fun _ _ => rfl)) (vr 0) (by rfl)) (pd_one (pd_cmp opd_le (pd_fn F_kept (hr.mono (by decide)) tkF (ad_cons (vr 0) (ad_cons (pd_ix ixd (vr 1) pd_int (fun _ _ => rfl)) ad_nil))) (pd_ix ixd (vr 1) pd_int (fun _ _ => rfl)) (nomark _)))))) bd_nil)
      (bd_cons (sd_asg (vr 1) (gd_tup (n := 4) rfl (gds_cons (gd_name (i := 2) sc_stands.nd) (gds_cons (gd_name (i := 3) sc_stands.nd) (gds_cons (gd_name (i := 4) sc_stands.nd) (gds_cons (gd_name (i := 5) sc_stands.nd) gds_nil))))))
      (bd_one (sd_ret (pd_fn F_bears (hr.mono (by decide)) tkF (ad_cons (vr 0) (ad_cons (vr 3) (ad_cons (vr 4) (ad_cons (vr 5) ad_nil))))))))))))) hk
abbrev P_w_racks_right : List Str := ["_law_ring_here", "_law_hosts_here", "_law_table_here"]
theorem sc_w_racks_right : FnScope N_w_racks_right P_w_racks_right (defScope s_w_racks_right) := ⟨rfl, rfl, rfl, by decide +kernel, rfl, by decide +kernel, by decide +kernel⟩
theorem ok_w_racks_right {P : Program} {w : World} {K : PySem.W.Frag} {mg : Str → Option Value} {base : Heap} {C f : Addr} {fd : FuncData} (T : Tx K mg C) (F_stands : Fok P w K mg base "stands" 10 2 (sd_stands C)) (F_w_words : Fok P w K mg base "_law_words" 1 2 (sd_w_words C))
    (F : FunD K "_law_racks_right" "_law_racks_right" (defArgs s_w_racks_right) (defBody s_w_racks_right) (defScope s_w_racks_right) [] [] f fd) (hk : Keeps N_w_racks_right 3 (sd_w_racks_right C) (db_w_racks_right C)) : FnG P w K mg base 11 f fd P_w_racks_right (spOf K 3 (sd_w_racks_right C)) := 
  okG F sc_w_racks_right rfl (fun cdv A fr s H E hr hg => (bd_cons (sd_set 3 sc_w_racks_right.nd (pd_ix ixd (pd_fn F_w_words (hr.mono (by decide)) tkF (ad_cons (vr 1) (ad_cons pd_str ad_nil))) pd_int (fun _ _ => rfl)))
      (bd_cons (sd_set 4 sc_w_racks_right.nd (pd_callB (cd_minL rfl) (by rfl) T.min (by decide +kernel) (ad_cons (pd_lc (own := [("_law_own", 5)]) rfl sc_w_racks_right.nd (id_seq (vr 2)) (blkOk_by (N := N_w_racks_right) (sc := (defScope s_w_racks_right)) (by decide +kernel)) (fun _ _ _ _ _ => (gw_name (i := 5) sc_w_racks_right.nd)) (fun _ _ _ _ _ => tsd_nil) (fun _ _ _ _ _ => (pd_lenSetT rfl (by rfl) T.len (by rfl) T.set (pd_lc (own := [("_law_each", 6)]) rfl sc_w_racks_right.nd (id_seq (vr 5)) (blkOk_by (N := N_w_racks_right) (sc := { kind := .function, names := [(".0", .local), ("_law_own", .local), ("len", .globalImplicit), ("set", .globalImplicit), ("_law_by_name", .cell)], isGenerator := false, isCoroutine := false }) (by decide +kernel)) (fun _ _ _ _ _ => (gw_name (i := 6) sc_w_racks_right.nd)) (fun _ _ _ _ _ => tsd_nil) (fun _ _ _ _ _ => (pd_dget (hu_of hr) (vr 3) (vr 6) (fun _ _ => rfl))))))) ad_nil)))
      (bd_one (sd_ret (pd_cmp (opd_eq hr.units) (pd_callB (cd_repr hg (hu2_of hr)) (by rfl) T.repr (by decide +kernel) (ad_cons (pd_lc (own := [("_law_many", 7)]) rfl sc_w_racks_right.nd (id_rng2 (by rfl) T.range (ad_cons pd_int (ad_cons pd_int ad_nil))) (blkOk_by (N := N_w_racks_right) (sc := (defScope s_w_racks_right)) (by decide +kernel)) (fun _ _ _ _ _ => (gw_name (i := 7) sc_w_racks_right.nd)) (fun _ _ _ _ _ => tsd_nil) (fun _ _ _ _ _ => (pd_fn F_stands (hr.mono (by decide)) takes0 (ad_cons (vr 0) (ad_cons (pd_tup (ad_cons pd_str (ad_cons (vr 7) ad_nil))) ad_nil))))) ad_nil)) (pd_callB (cd_repr hg (hu2_of hr)) (by rfl) T.repr (by decide +kernel) (ad_cons (pd_lc (own := [("_law_many", 7)]) rfl sc_w_racks_right.nd (id_rng2 (by rfl) T.range (ad_cons pd_int (ad_cons pd_int ad_nil))) (blkOk_by (N := N_w_racks_right) (sc := (defScope s_w_racks_right)) (by decide +kernel)) (fun _ _ _ _ _ => (gw_name (i := 7) sc_w_racks_right.nd)) (fun _ _ _ _ _ => tsd_nil) (fun _ _ _ _ _ => (pd_cmp opd_ge (vr 4) (vr 7) (nomark _)))) ad_nil)) (nomark _))))))) hk
abbrev P_w_shares_right : List Str := ["_law_ring_here", "_law_hosts_here", "_law_table_here"]
theorem sc_w_shares_right : FnScope N_w_shares_right P_w_shares_right (defScope s_w_shares_right) := ⟨rfl, rfl, rfl, by decide +kernel, rfl, by decide +kernel, by decide +kernel⟩
theorem ok_w_shares_right {P : Program} {w : World} {K : PySem.W.Frag} {mg : Str → Option Value} {base : Heap} {C f : Addr} {fd : FuncData} (T : Tx K mg C) (F_stands : Fok P w K mg base "stands" 10 2 (sd_stands C)) (FP_stands_wish_ring : FokP P w K mg base "stands" 10 2 ["wish", "ring"] [1, 0] (sd_stands C))
    (F : FunD K "_law_shares_right" "_law_shares_right" (defArgs s_w_shares_right) (defBody s_w_shares_right) (defScope s_w_shares_right) [] [] f fd) (hk : Keeps N_w_shares_right 3 (sd_w_shares_right C) (db_w_shares_right C)) : FnG P w K mg base 11 f fd P_w_shares_right (spOf K 3 (sd_w_shares_right C)) := 
  okG F sc_w_shares_right rfl (fun cdv A fr s H E hr hg => (bd_cons (sd_for poF rfl (id_seq (vr 1)) (gd_name (i := 3) sc_w_shares_right.nd) (bd_cons (sd_set 4 sc_w_shares_right.nd (pd_callB (cd_len) (by rfl) T.len (by decide +kernel) (ad_cons (pd_lc (own := [("_law_own", 6)]) rfl sc_w_shares_right.nd (id_seq (vr 2)) (blkOk_by (N := N_w_shares_right) (sc := (defScope s_w_shares_right)) (by decide +kernel)) (fun _ _ _ _ _ => (gw_name (i := 6) sc_w_shares_right.nd)) (fun _ _ _ _ _ => (tsd_one (td_cmp opd_in (pd_ix ixd (vr 3) pd_int (fun _ _ => rfl)) (vr 6) (by rfl)))) (fun _ _ _ _ _ => (vr 6))) ad_nil)))
      (bd_cons (sd_set 5 sc_w_shares_right.nd (pd_lst (ad_cons (pd_fn F_stands (hr.mono (by decide)) tkF (ad_cons (vr 0) (ad_cons (pd_tup (ad_cons pd_str (ad_cons (pd_ix ixd (vr 3) pd_int (fun _ _ => rfl)) (ad_cons (vr 4) ad_nil)))) ad_nil))) (ad_cons (pd_fn F_stands (hr.mono (by decide)) tkF (ad_cons (vr 0) (ad_cons (pd_tup (ad_cons pd_str (ad_cons (pd_ix ixd (vr 3) pd_int (fun _ _ => rfl)) (ad_cons pd_int ad_nil)))) ad_nil))) ad_nil))))
      (bd_one (sd_if (td_w (wd_or (td_cmp (opd_ne hr.units) (pd_callB (cd_repr hg (hu2_of hr)) (by rfl) T.repr (by decide +kernel) (ad_cons (vr 5) ad_nil)) (pd_callB (cd_repr hg (hu2_of hr)) (by rfl) T.repr (by decide +kernel) (ad_cons (pd_lst (ad_cons pd_bl (ad_cons (pd_cmp (opd_eq hr.units) (vr 4) pd_int (nomark _)) ad_nil))) ad_nil)) (nomark _)) (wd_or1 (td_w (wd_and (td_cmp opd_gt (vr 4) pd_int (nomark _)) (wd_and1 (td_cmp opd_isnotB (pd_fn F_stands (hr.mono (by decide)) tkF (ad_cons (vr 0) (ad_cons (pd_tup (ad_cons pd_str (ad_cons (pd_ix ixd (vr 3) pd_int (fun _ _ => rfl)) (ad_cons (pd_op opd_sub (vr 4) pd_int) ad_nil)))) ad_nil))) pd_bl (nomark _)))))))) (bd_one (sd_ret pd_bl)) bd_nil)))))
      (bd_cons (sd_set 5 sc_w_shares_right.nd (pd_lst (ad_cons (pd_fn F_stands (hr.mono (by decide)) tkF (ad_cons (vr 0) (ad_cons (pd_tup (ad_cons pd_str (ad_cons pd_str (ad_cons pd_int ad_nil)))) ad_nil))) (ad_cons (pd_fnP (ks := ["wish", "ring"]) (pm := [1, 0]) FP_stands_wish_ring (hr.mono (by decide)) tkF (kd_cons (pd_tup (ad_cons pd_str (ad_cons pd_str (ad_cons (pd_op opd_pow pd_int pd_int) ad_nil)))) (kd_cons (vr 0) kd_nil))) ad_nil))))
      (bd_one (sd_ret (pd_cmp (opd_eq hr.units) (pd_callB (cd_repr hg (hu2_of hr)) (by rfl) T.repr (by decide +kernel) (ad_cons (vr 5) ad_nil)) (pd_callB (cd_repr hg (hu2_of hr)) (by rfl) T.repr (by decide +kernel) (ad_cons (pd_lst (ad_cons pd_bl (ad_cons pd_bl ad_nil))) ad_nil)) (nomark _))))))) hk
abbrev P_w_right : List Str := ["_law_well_here"]
theorem sc_w_right : FnScope N_w_right P_w_right (defScope s_w_right) := ⟨rfl, rfl, rfl, by decide +kernel, rfl, by decide +kernel, by decide +kernel⟩
theorem ok_w_right {P : Program} {w : World} {K : PySem.W.Frag} {mg : Str → Option Value} {base : Heap} {C f : Addr} {fd : FuncData} (T : Tx K mg C) (F_stands : Fok P w K mg base "stands" 10 2 (sd_stands C)) (F_w_dip : Fok P w K mg base "_law_dip" 1 2 (sd_w_dip C)) (F_w_least_left : Fok P w K mg base "_law_least_left" 2 4 (sd_w_least_left C)) (F_w_made : Fok P w K mg base "_law_made" 8 2 (sd_w_made C)) (F_w_racks_right : Fgd P w K mg base "_law_racks_right" 11 3 (sd_w_racks_right C)) (F_w_shares_right : Fgd P w K mg base "_law_shares_right" 11 3 (sd_w_shares_right C)) (F_w_small : Fok P w K mg base "_law_small" 4 5 (sd_w_small C)) (F_w_table : Fok P w K mg base "_law_table" 2 2 (sd_w_table C))
    (F : FunD K "_law_right" "_law_right" (defArgs s_w_right) (defBody s_w_right) (defScope s_w_right) [] [] f fd) (hk : Keeps N_w_right 1 (sd_w_right C) (db_w_right C)) : FnG P w K mg base 12 f fd P_w_right (spOf K 1 (sd_w_right C)) := 
  okG F sc_w_right rfl (fun cdv A fr s H E hr hg => (bd_cons (sd_asg (pd_fn F_w_small (hr.mono (by decide)) tkF (ad_cons (vr 0) (ad_cons pd_int (ad_cons pd_int (ad_cons pd_int (ad_cons pd_int ad_nil)))))) (gd_tup (n := 4) rfl (gds_cons (gd_name (i := 1) sc_w_right.nd) (gds_cons (gd_name (i := 2) sc_w_right.nd) (gds_cons (gd_name (i := 3) sc_w_right.nd) (gds_cons (gd_name (i := 4) sc_w_right.nd) gds_nil))))))
      (bd_cons (sd_asg (pd_tup (ad_cons (pd_fn F_w_made (hr.mono (by decide)) tkF (ad_cons (vr 1) (ad_cons (vr 2) ad_nil))) (ad_cons (pd_fn F_w_table (hr.mono (by decide)) tkF (ad_cons (vr 1) (ad_cons (vr 2) ad_nil))) ad_nil))) (gd_tup (n := 2) rfl (gds_cons (gd_name (i := 5) sc_w_right.nd) (gds_cons (gd_name (i := 6) sc_w_right.nd) gds_nil))))
      (bd_cons (sd_if (td_w (wd_or (td_not (td_tru (pd_fg F_w_shares_right (hr.mono (by decide)) hg tkF (ad_cons (vr 5) (ad_cons (vr 2) (ad_cons (vr 6) ad_nil)))))) (wd_or1 (td_not (td_tru (pd_fg F_w_racks_right (hr.mono (by decide)) hg tkF (ad_cons (vr 5) (ad_cons (vr 2) (ad_cons (vr 6) ad_nil))))))))) (bd_one (sd_ret pd_bl)) bd_nil)
      (bd_cons (sd_for poF rfl (id_seq (pd_lst (ad_cons pd_str (ad_cons pd_str ad_nil)))) (gd_name (i := 7) sc_w_right.nd) (bd_one (sd_for poF rfl (id_seq (pd_lst (ad_cons pd_int (ad_cons pd_int (ad_cons pd_int (ad_cons (pd_op opd_add pd_int (pd_fn F_w_dip (hr.mono (by decide)) tkF (ad_cons (vr 0) (ad_cons pd_int ad_nil)))) (ad_cons pd_int ad_nil))))))) (gd_name (i := 8) sc_w_right.nd) (bd_cons (sd_set 9 sc_w_right.nd (pd_fn F_w_least_left (hr.mono (by decide)) tkF (ad_cons (vr 2) (ad_cons (vr 6) (ad_cons (vr 7) (ad_cons (vr 8) ad_nil))))))
      (bd_cons (sd_setLc 10 (own := [("_law_rest", 11)]) rfl sc_w_right.nd (sw_true rfl rfl rfl (by decide +kernel)) (id_rng1 (by rfl) T.range (ad_cons pd_int ad_nil)) (blkOk_by (N := N_w_right) (sc := (defScope s_w_right)) (by decide +kernel)) (fun _ _ _ _ _ => (gw_name (i := 11) sc_w_right.nd)) (fun _ _ _ _ _ => tsd_nil) (fun _ _ _ _ _ => (pd_fn F_stands (hr.mono (by decide)) takes0 (ad_cons (vr 5) (ad_cons (pd_tup (ad_cons pd_str (ad_cons (vr 7) (ad_cons (vr 8) (ad_cons (vr 11) ad_nil))))) ad_nil)))))
      (bd_one (sd_if (td_cmp (opd_ne hr.units) (pd_callB (cd_repr hg (hu2_of hr)) (by rfl) T.repr (by decide +kernel) (ad_cons (vr 10) ad_nil)) (pd_callB (cd_repr hg (hu2_of hr)) (by rfl) T.repr (by decide +kernel) (ad_cons (pd_lc (own := [("_law_rest", 11)]) rfl sc_w_right.nd (id_rng1 (by rfl) T.range (ad_cons pd_int ad_nil)) (blkOk_by (N := N_w_right) (sc := (defScope s_w_right)) (by decide +kernel)) (fun _ _ _ _ _ => (gw_name (i := 11) sc_w_right.nd)) (fun _ _ _ _ _ => tsd_nil) (fun _ _ _ _ _ => (pd_cmp opd_ge (vr 9) (vr 11) (nomark _)))) ad_nil)) (nomark _)) (bd_one (sd_ret pd_bl)) bd_nil)))))))
      (bd_one (sd_ret pd_bl))))))) hk
abbrev P_law : List Str := ["_law_script"]
theorem sc_law : FnScope N_law P_law (defScope s_law) := ⟨rfl, rfl, rfl, by decide +kernel, rfl, by decide +kernel, by decide +kernel⟩
theorem ok_law {P : Program} {w : World} {K : PySem.W.Frag} {mg : Str → Option Value} {base : Heap} {C f : Addr} {fd : FuncData} (T : Tx K mg C) (F_w_right : Fgd P w K mg base "_law_right" 12 1 (sd_w_right C)) (F_w_well : Fok P w K mg base "_law_well" 1 2 (sd_w_well C))
    (F : FunD K "law" "law" (defArgs s_law) (defBody s_law) (defScope s_law) [] [] f fd) (hk : Keeps N_law 1 (sd_law C) (db_law C)) : FnG P w K mg base 13 f fd P_law (spOf K 1 (sd_law C)) := 
  okG F sc_law rfl (fun cdv A fr s H E hr hg => (bd_one (sd_ret (pd_callB (cd_all rfl) (by rfl) T.all (by decide +kernel) (ad_cons (pd_lc (own := [("_law_turn", 1)]) rfl sc_law.nd (id_rng1 (by rfl) T.range (ad_cons (pd_callB (cd_max2 rfl) (by rfl) T.max (by decide +kernel) (ad_cons pd_int (ad_cons (pd_callB (cd_min2 rfl) (by rfl) T.min (by decide +kernel) (ad_cons (pd_callB (cd_len) (by rfl) T.len (by decide +kernel) (ad_cons (vr 0) ad_nil)) (ad_cons pd_int ad_nil))) ad_nil))) ad_nil)) (blkOk_by (N := N_law) (sc := (defScope s_law)) (by decide +kernel)) (fun _ _ _ _ _ => (gw_name (i := 1) sc_law.nd)) (fun _ _ _ _ _ => tsd_nil) (fun _ _ _ _ _ => (pd_fg F_w_right (hr.mono (by decide)) hg takes0 (ad_cons (pd_fn F_w_well (hr.mono (by decide)) takes0 (ad_cons (vr 0) (ad_cons (vr 1) ad_nil))) ad_nil)))) ad_nil))))) hk
end L47
namespace DLH
open PySem PySem.W PySem.Calls PyProof.Rows He He5
theorem isB_ok {K : Frag} {x : PySem.Str} (cl : L2.Cls K (ga K x)) (h : isB K x = true) : DL.OwnI K (ga K x) := by
  obtain ⟨h1, h⟩ := ba h
  obtain ⟨h2, h⟩ := ba h
  obtain ⟨h3, h⟩ := ba h
  obtain ⟨h4, h5⟩ := ba h
  exact ⟨cl, eqO_ok h1, eqO_ok h2, of_decide_eq_true h3, of_decide_eq_true h4, fun t ht => of_decide_eq_true (List.all_eq_true.mp h5 t ht)⟩
end DLH
set_option maxRecDepth 100000
set_option maxHeartbeats 1000000
namespace L47
open PySem PySem.Spec PyProof.Rows L2 DL R
local macro_rules | `(tactic| bv_omega) => `(tactic| first | assumption | exact mset_same)
local macro_rules | `(tactic| symm) => `(tactic| first
  | ((with_reducible show ∃ _, _ = _ ∧ _); refine ⟨_, rfl, ?_⟩)
  | ((with_reducible show _ = _ ∧ _); refine ⟨rfl, ?_⟩)
  | ((with_reducible show ∃ _ _, _ = _ ∧ _ = _ ∧ _); refine ⟨_, _, rfl, rfl, ?_⟩)
  | ((with_reducible show ∃ _ _, _ = _ ∧ _); refine ⟨_, _, rfl, ?_⟩)
  | ((with_reducible show ∃ _ _ _, _ = _ ∧ _); refine ⟨_, _, _, rfl, ?_⟩)
  | ((with_reducible show (_ ≤ _ ∧ _) ∧ _); refine ⟨by omega, ?_⟩)
  | with_reducible refine add_int ?_ | with_reducible refine sub_int ?_
  | with_reducible refine lt_int ?_ | with_reducible refine le_int ?_ | with_reducible refine gt_int ?_ | with_reducible refine ge_int ?_
  | with_reducible refine int_int ?_
  | with_reducible refine eq_int ?_ | with_reducible refine ne_int ?_
  | with_reducible refine len_tup ?_ | with_reducible refine len_lst ?_
  | ((with_reducible show rdIx (.cel _) (.int _) _ _); refine ix_cel (by bv_omega) (by rfl) ?_)
  | ((with_reducible show rdIx (.lst _) (.int _) _ _); refine ix_lst (by rfl) ?_)
  | ((with_reducible show rdIx (.tup _) (.int _) _ _); refine ix_tup (by rfl) ?_)
  | ((with_reducible show rdLen [.cel _] _ _); refine len_cel (by bv_omega) ?_)
  | ((with_reducible show rdMul (.int _) (.int _) _ _); first | refine mul_l (by decide) (by decide) ?_ | refine mul_r (by decide) (by decide) ?_ | refine mul_l (by omega) (by omega) ?_ | refine mul_r (by omega) (by omega) ?_)
  | ((with_reducible show rdDiv (.int _) (.int _) _ _); refine div_int (by first | decide | assumption | omega) (by first | decide | assumption | omega) ?_)
  | ((with_reducible show rdDivmod [.int _, .int _] _ _); refine dm_int (by first | decide | assumption | omega) (by first | decide | assumption | omega) ?_)
  | ((with_reducible show @ite _ (_ = true) _ _ _); first | refine ifYes (by first | with_reducible rfl | exact Bool.not_false | assumption) ?_ | refine ifNo (by first | with_reducible rfl | exact Bool.not_true | assumption) ?_)
  | ((with_reducible show ∃ _, _ ∧ _); refine ⟨_, celL_of (by bv_omega), ?_⟩)
  | ((with_reducible show ∃ _ _ _ _, _ ∧ _ ∧ _ ∧ _ ∧ _); refine ⟨_, _, _, _, rfl, rfl, by bv_omega, by rfl, ?_⟩)
  | ((with_reducible show (_ : Nat) ≤ sizeLine ∧ _); refine ⟨by rw [sizeLine_eq]; exact Nat.le_of_ble_eq_true rfl, ?_⟩))
local macro_rules | `(tactic| infer_instance) => `(tactic| ((repeat symm); try dsimp only))
local macro_rules | `(tactic| ac_rfl) => `(tactic| ((repeat (first | symm | ((with_reducible show rdMod (.int _) (.int _) _ _); refine mod_any (by first | decide | assumption | omega) ?_; intro _ _ _))); try dsimp only))
theorem kp_w_dip (C : Addr) : Keeps N_w_dip 2 (sd_w_dip C) (db_w_dip C) := by
  rintro ds M q ex hl ⟨k, n, g, rfl, n0, n1, ⟨a, b, c, hM, b0, b1, c0, c1⟩, hg, h⟩
  show db_w_dip C _ [some (.cel k), some (.int n), none] M
  unfold db_w_dip
  ac_rfl
  refine ifD (fun h1 => ?_) (fun h1 => ?_)
  · ac_rfl
    exact h _ _ (Int.emod_nonneg _ (by omega)) (Int.emod_lt_of_pos _ n0) (KeptB.refl M).self ⟨_, _, _, mset_same, b0, b1, c0, by omega⟩
  · ac_rfl
    exact h _ _ (by assumption) (by assumption) (((KeptB.refl M).self).self) ⟨_, _, _, mset_same, by assumption, by omega, by omega, by omega⟩
theorem kp_w_of (C : Addr) : Keeps N_w_of 2 (sd_w_of C) (db_w_of C) := by
  rintro ds M q ex hl ⟨k, d, xs, g, rfl, hd, hs, x0, x1, hK, hg, h⟩
  show db_w_of C _ [some (.cel k), some d] M
  unfold db_w_of
  ac_rfl
  refine len_seq hs ?_
  ac_rfl
  refine ⟨k, _, g, rfl, by omega, by omega, hK, hg, fun v M' v0 v1 hB hK' => ?_⟩
  obtain ⟨x, e, m⟩ := atI_in v0 v1
  exact ix_seq (seq_kept hB hd hs) e (h x M' m hB hK')
theorem abs_int {i : Int} {M : Mem} {q : QD} (w : q (.int (if i < 0 then -i else i)) M) : rdAbs [.int i] M q := w
def well_tail (C : Addr) : DS :=
    (dSeq (dSet 3 (dOp rdAdd (dC (.int 86028121)) (dOp rdMul (dC (.int 15485)) (dVar 1))))
    (dSeq (dFor (dIter (dOp rdAdd (dLst (dCons (dVar 2) dNil)) (dSl rdSl (dVar 0) dNo (dPart (dC (.int 7)))))) (gdName 4) (dSet 3 (dOp rdMod (dCB rdInt (dCons (dOp rdAdd (dOp rdMul (dVar 3) (dC (.int 69623))) (dVar 4)) dNil)) (dC (.int 2147483587)))))
    (dRet (dLstC (dCons (dIf (dTst (dOp rdGe (dCB rdAbs (dCons (dVar 2) dNil)) (dOp rdPow (dC (.int 10)) (dC (.int 18))))) (dCB rdAbs (dCons (dVar 2) dNil)) (dC (.int 0))) (dCons (dVar 3) (dCons (dC (.int 0)) dNil)))))))
theorem well_tail_ok (C : Addr) {ns : List Int} {t : Nat} {z : Int} {M : Mem} {d : EndD} (h : ∀ k M', M k = none → Kept M M' → Kg M' k 0 → d.rt (.cel k) M') : well_tail C d [some (.lsf (ns.map D.int)), some (.int t), some (.int z), none, none] M := by
  unfold well_tail
  ac_rfl
  refine sl_lsf (n := 7) ?_
  ac_rfl
  rw [← List.map_take]
  refine add_lst (a := [.int z]) (b := (ns.take 7).map D.int) rfl rfl (by rw [List.length_map, List.length_take, sizeLine_eq]; show 1 + _ ≤ _; omega) ?_
  have ez : ([.int z] ++ (ns.take 7).map D.int : List D) = (z :: ns.take 7).map D.int := rfl
  rw [ez]
  ac_rfl
  refine for_lst (fun i env M' => M' = M ∧ ∃ (m : Int) (w : Option D), env = [some (.lsf (ns.map D.int)), some (.int t), some (.int z), some (.int m), w] ∧ (1 ≤ i → 0 ≤ m ∧ m < 2147483648)) ?_ ?_ _ _ ⟨rfl, _, _, rfl, fun z => absurd z (by omega)⟩
  · rintro env M' ⟨rfl, m, w, rfl, hm⟩
    refine ⟨rfl, ?_⟩
    obtain ⟨hm0, hm1⟩ := hm (by rw [List.length_map, List.length_cons]; omega)
    ac_rfl
    refine abs_int ?_
    ac_rfl
    refine pow_int (by refine ⟨?_, ?_, ?_⟩ <;> decide) ?_
    ac_rfl
    refine ifD (fun h2 => ?_) (fun h2 => ?_)
    · ac_rfl
      refine abs_int ?_
      ac_rfl
      intro c hc
      exact h c _ hc (Kept.new hc) ⟨_, _, _, mset_same, hm0, hm1, by decide, by decide⟩
    · ac_rfl
      intro c hc
      exact h c _ hc (Kept.new hc) ⟨_, _, _, mset_same, hm0, hm1, by decide, by decide⟩
  · rintro i x env M' hx ⟨rfl, m, w, rfl, hm⟩ nx hnx
    refine ⟨rfl, ?_⟩
    obtain ⟨z', _, rfl⟩ := List.mem_map.mp (List.mem_of_getElem? hx)
    ac_rfl
    exact hnx _ _ ⟨rfl, _, _, rfl, fun _ => ⟨by assumption, by omega⟩⟩
theorem kp_w_well (C : Addr) : Keeps N_w_well 2 (sd_w_well C) (db_w_well C) := by
  rintro ds M q ex hl ⟨ns, t, rfl, ht, hn, hb, h⟩
  show db_w_well C _ [some (.lsf (ns.map D.int)), some (.int t), none, none, none] M
  unfold db_w_well
  ac_rfl
  refine len_seq rfl ?_
  ac_rfl
  refine ifD (fun h1 => ?_) (fun h1 => ?_)
  · rw [List.length_map] at h1
    have hlt : t < ns.length := by omega
    ac_rfl
    refine ix_seq (xs := ns.map D.int) rfl (atI_nat (n := t) (by rw [List.getElem?_map, List.getElem?_eq_getElem hlt]; rfl)) ?_
    refine well_tail_ok C (t := t) ?_
    exact h
  · iterate 3 symm
    refine well_tail_ok C (t := t) ?_
    exact h
theorem kp_w_slots (C : Addr) : Keeps N_w_slots 1 (sd_w_slots C) (db_w_slots C) := by
  rintro ds M q ex hl ⟨size, rfl, s1, s30, h⟩
  show db_w_slots C _ [some (.int size), none] M
  unfold db_w_slots
  infer_instance
  refine min_int fun m m1 m2 hm => ?_
  have em : m = size := by omega
  subst em
  unfold dListR
  infer_instance
  refine ⟨m.toNat, by rw [Int.toNat_of_nonneg (by omega)], by omega, ?_⟩
  infer_instance
  rw [show m / m = 1 from Int.ediv_self (by omega)]
  intro c hc
  refine h c ((List.range m.toNat).map fun i : Nat => (i : Int)) _ hc (Kept.new hc) ⟨?_, ?_, fun s hs => ?_, by rw [List.length_map, List.length_range]; omega⟩ (by rw [List.length_map, List.length_range]; omega)
  · rw [mset_same, List.map_map]; rfl
  · unfold List.Nodup
    rw [List.pairwise_map]
    exact List.nodup_range.imp fun e z => e (by omega)
  · obtain ⟨i, hi, rfl⟩ := List.mem_map.mp hs
    have := List.mem_range.mp hi
    omega
theorem slots_ne {M : Mem} {k c : Addr} {g size : Int} {L : List Int} (hK : Kg M k g) (hS : Slots M c size L) : k ≠ c := fun e => by
  obtain ⟨_, _, _, h, _⟩ := hK
  rw [e, hS.at_] at h
  simp at h
theorem slots_b {M M' : Mem} {k c : Addr} {g size : Int} {L : List Int} (hK : Kg M k g) (hS : Slots M c size L) (hB : KeptB k M M') : Slots M' c size L := { hS with at_ := hB _ _ hS.at_ (Ne.symm (slots_ne hK hS)) }
theorem KeptC.refl {k c : Addr} (M : Mem) : KeptC k c M M := fun _ _ h _ _ => h
theorem KeptC.trans {k c : Addr} {M M' M'' : Mem} (a : KeptC k c M M') (b : KeptC k c M' M'') : KeptC k c M M'' := fun d x h n n' => b d x (a d x h n n') n n'
theorem KeptC.ofB {k c : Addr} {M M' : Mem} (a : KeptB k M M') : KeptC k c M M' := fun d x h n _ => a d x h n
theorem KeptC.put {k c d : Addr} {M M' : Mem} {x : Cel} (a : KeptC k c M M') (n : M d = none) : KeptC k c M (mset M' d x) := fun e y h n1 n2 => by
  have : e ≠ d := fun z => by rw [z, n] at h; cases h
  rw [mset_ne this]
  exact a e y h n1 n2
theorem KeptC.self {k c : Addr} {M M' : Mem} {x : Cel} (a : KeptC k c M M') : KeptC k c M (mset M' c x) := fun e y h n1 n2 => by
  rw [mset_ne n2]
  exact a e y h n1 n2
theorem kg_other {M : Mem} {k d : Addr} {g : Int} {x : Cel} (h : Kg M k g) (n : d ≠ k) : Kg (mset M d x) k g := by
  obtain ⟨a, b, c, h1, h2⟩ := h
  exact ⟨a, b, c, by rw [mset_ne (Ne.symm n)]; exact h1, h2⟩
theorem take_drop_one {α : Type} (l : List α) (n : Nat) : l.take n ++ l.drop (n + 1) = l.eraseIdx n := (List.eraseIdx_eq_take_drop_succ l n).symm
theorem kp_w_marks (C : Addr) : Keeps N_w_marks 3 (sd_w_marks C) (db_w_marks C) := by
  rintro ds M q ex hl ⟨k, c, g, size, L, many, rfl, hS, hsz, m1, m16, hmL, hK, hg, h⟩
  show db_w_marks C _ [some (.cel k), some (.cel c), some (.int many), none, none, none, none, none] M
  unfold db_w_marks
  have hkc := slots_ne hK hS
  have hSA := hS.at_
  infer_instance
  intro f hf
  have hfk := kg_ne hK hf
  have hfc : f ≠ c := fun e => by rw [e, hSA] at hf; cases hf
  infer_instance
  refine ix_cel (i := 1) (by rw [mset_ne (Ne.symm hfc)]; exact hSA) rfl ?_
  infer_instance
  refine min_int fun m h1 h2 h3 => ?_
  have em : m = 1 := by omega
  subst em
  infer_instance
  refine for_rng (n := ((many : Nat) : Int).toNat) (fun i env M' => ∃ (ss L' : List Int) (w6 w7 : Option D), env = [some (.cel k), some (.cel c), some (.int many), some (.cel f), some (.int 1), some (.int 1), w6, w7] ∧ M' f = some (.ls (ss.map D.int)) ∧ ss.length = i ∧ ss.Nodup ∧ (∀ m ∈ ss, m ∈ L ∧ m ∉ L') ∧ L'.Sublist L ∧ L'.length + i = L.length ∧ Slots M' c size L' ∧ KeptC k c M M' ∧ Kg M' k (g + 2 * (i : Int))) ?_ ?_ _ _
    ⟨[], L, _, _, rfl, mset_same, rfl, .nil, fun m hm => by simp at hm, List.Sublist.refl _, rfl, { hS with at_ := by rw [mset_ne (Ne.symm hfc)]; exact hSA }, (KeptC.refl M).put hf, by rw [show g + 2 * ((0 : Nat) : Int) = g by omega]; exact kg_put hK hf⟩
  · rintro env M' ⟨ss, L', w6, w7, rfl, hF, hsl, hsn, hsi, hsub, hlen, hS', hC', hKg⟩
    refine ⟨trivial, ?_⟩
    infer_instance
    refine ⟨_, _, ss, rfl, celL_of hF, DL.ints_map ss, fun ns' hp hs' => ?_⟩
    infer_instance
    refine ⟨_, _, rfl, rfl, ?_⟩
    have hnl := hp.length_eq
    refine h ns' L' M' ⟨by omega, by omega, nodup_asc hs' (hp.nodup_iff.mpr hsn), fun m hm => hS.inn m (hsi m (hp.mem_iff.mp hm)).1⟩ (by omega) (fun m hm => hsi m (hp.mem_iff.mp hm)) hsub (by omega) hS' hC' (kg_le hKg (by omega))
  · rintro i env M' hi ⟨ss, L', w6, w7, rfl, hF, hsl, hsn, hsi, hsub, hlen, hS', hC', hKg⟩ nx hnx
    refine ⟨trivial, ?_⟩
    have hLl : (L'.map D.int).length = L'.length := List.length_map _
    have hLf := hS'.few
    infer_instance
    refine ix_cel (i := 0) hS'.at_ rfl ?_
    infer_instance
    refine ⟨k, _, _, rfl, by omega, by omega, hKg, by omega, fun v M2 v0 v1 hB2 hK2 => ?_⟩
    rw [hLl] at v1
    have hS2 := slots_b hKg hS' hB2
    have hF2 := hB2 _ _ hF hfk
    obtain ⟨j, rfl⟩ := Int.eq_ofNat_of_zero_le v0
    have hj : j < L'.length := by omega
    infer_instance
    refine ⟨f, _, rfl, hF2, ?_⟩
    infer_instance
    refine ix_cel (i := 0) hS2.at_ rfl ?_
    infer_instance
    refine ix_lst (atI_nat (n := j) (by rw [List.getElem?_map, List.getElem?_eq_getElem hj]; rfl)) ?_
    infer_instance
    refine ⟨k, 1, _, rfl, by omega, by omega, hK2, by omega, fun u M3 u0 u1 hB3 hK3 => ?_⟩
    have eu : u = 0 := by omega
    subst eu
    have hS3 := slots_b hK2 hS2 hB3
    have hF3 := hB3 _ _ hF2 hfk
    infer_instance
    refine ⟨_, _, rfl, hF3, by rw [List.length_map, sizeLine_eq]; omega, ?_⟩
    infer_instance
    have hfc' : c ≠ f := Ne.symm hfc
    refine ix_cel (i := 0) (by rw [mset_ne hfc']; exact hS3.at_) rfl ?_
    infer_instance
    refine sl_lst (n := j) ?_
    infer_instance
    refine ix_cel (i := 0) (by rw [mset_ne hfc']; exact hS3.at_) rfl ?_
    infer_instance
    refine sl_lstF (n := j + 1) ?_
    infer_instance
    refine add_lst rfl rfl (by rw [List.length_take, List.length_drop, sizeLine_eq]; omega) ?_
    have et : (L'.map D.int).take j ++ (L'.map D.int).drop (j + 1) = (L'.eraseIdx j).map D.int := by rw [← List.map_take, ← List.map_drop, ← List.map_append, take_drop_one]
    rw [et]
    infer_instance
    refine ⟨c, _, 0, 0, rfl, rfl, by rw [mset_ne hfc']; exact hS3.at_, rfl, ?_⟩
    have ev : L'[j] * 1 + 0 * (1 / 1) = L'[j] := by omega
    rw [ev]
    have hjm : L'[j] ∈ L' := List.getElem_mem hj
    have hel : (L'.eraseIdx j).length + 1 = L'.length := by rw [List.length_eraseIdx_of_lt hj]; omega
    have hes : (L'.eraseIdx j).Sublist L' := List.eraseIdx_sublist ..
    have hnj : L'[j] ∉ L'.eraseIdx j := fun z => by
      have hnd := hS'.nd
      obtain ⟨n, hn1, hn2⟩ := List.mem_iff_getElem.mp z
      rw [List.getElem_eraseIdx] at hn2
      split at hn2
      · exact (List.pairwise_iff_getElem.mp hnd n j (by omega) hj (by omega)) hn2
      · exact (List.pairwise_iff_getElem.mp hnd j (n + 1) hj (by omega) (by omega)) hn2.symm
    refine hnx _ _ ⟨ss ++ [L'[j]], L'.eraseIdx j, _, _, rfl, ?_, ?_, ?_, fun m hm => ?_, hes.trans hsub, by omega, ⟨?_, hS'.nd.sublist hes, fun s hs => hS'.inn s (hes.subset hs), by omega⟩, ?_, ?_⟩
    · rw [mset_ne hfc, mset_same, List.map_append]; rfl
    · rw [List.length_append, List.length_singleton]; omega
    · rw [List.nodup_append]
      refine ⟨hsn, by simp, fun a ha b hb e => ?_⟩
      rw [List.mem_singleton.mp hb] at e
      exact (hsi a ha).2 (by rw [e]; exact hjm)
    · rcases List.mem_append.mp hm with hm | hm
      · exact ⟨(hsi m hm).1, fun z => (hsi m hm).2 (hes.subset z)⟩
      · rw [List.mem_singleton.mp hm]
        exact ⟨hsub.subset hjm, hnj⟩
    · rw [mset_same]; rfl
    · exact ((((hC'.trans (KeptC.ofB hB2)).trans (KeptC.ofB hB3))).put hf).self
    · exact kg_le (kg_other (kg_other hK3 hfk) (Ne.symm hkc)) (by omega)
theorem kp_w_names (C : Addr) : Keeps N_w_names 1 (sd_w_names C) (db_w_names C) := by
  rintro ds M q ex hl ⟨k, g, rfl, hK, hg, h⟩
  show db_w_names C _ [some (.cel k), none, none] M
  unfold db_w_names
  infer_instance
  refine ⟨k, 10, g, rfl, by omega, by omega, hK, hg, fun v M' v0 v1 hB hK' => ?_⟩
  obtain ⟨j, rfl⟩ := Int.eq_ofNat_of_zero_le v0
  infer_instance
  have ep : ([.str "a", .str "plan", .str "h2", .str "ab", .str "host", .str "b", .str "z9zzzzzz", .str "settle", .str "c", .str "join"] : List D) = poolW.map D.str := rfl
  rw [ep]
  refine sl_lstF (n := j) ?_
  infer_instance
  refine sl_lst (n := j) ?_
  refine add_lst rfl rfl (by rw [List.length_take, List.length_drop, List.length_map, sizeLine_eq]; show 10 - _ + min _ 10 ≤ _; omega) ?_
  rw [← List.map_take, ← List.map_drop, ← List.map_append]
  exact h _ _ (List.perm_append_comm.trans (List.Perm.of_eq (List.take_append_drop j poolW))) hB hK'
theorem pool_ok : ∀ x ∈ poolW, nameB x = true ∧ x ≠ "zz" ∧ x ≠ "nobody" := by unfold poolW; decide +kernel
theorem pool_nd : poolW.Nodup := by unfold poolW; decide +kernel
theorem racks_ok : ∀ x ∈ (["r", "r1", "a"] : List Str), nameB x = true := by decide +kernel
theorem kp_w_rules (C : Addr) : Keeps N_w_rules 3 (sd_w_rules C) (db_w_rules C) := by
  rintro ds M q ex hl ⟨k, g, size, most, rfl, m1, m5, hK, hg, h⟩
  show db_w_rules C _ [some (.cel k), some (.int size), some (.int most), none, none, none] M
  unfold db_w_rules
  infer_instance
  refine ⟨k, _, g, rfl, by omega, by omega, hK, by omega, fun v M1 v0 v1 hB1 hK1 => ?_⟩
  infer_instance
  refine ⟨k, .lst [.str "hosts", .str "racks"], [.str "hosts", .str "racks"], _, rfl, (fun e => by cases e), rfl, by decide, by decide, hK1, by omega, fun x M2 hx hB2 hK2 => ?_⟩
  infer_instance
  refine ⟨k, .lst [.str "with", .str "plain"], [.str "with", .str "plain"], _, rfl, (fun e => by cases e), rfl, by decide, by decide, hK2, by omega, fun y M3 hy hB3 hK3 => ?_⟩
  infer_instance
  refine ⟨k, _, _, rfl, by omega, by omega, hK3, by omega, fun w M4 w0 w1 hB4 hK4 => ?_⟩
  infer_instance
  refine ⟨k, _, _, rfl, by omega, by omega, hK4, by omega, fun u M5 u0 u1 hB5 hK5 => ?_⟩
  infer_instance
  obtain ⟨s, hs, rfl⟩ : ∃ s : Str, (s = "hosts" ∨ s = "racks") ∧ x = .str s := by
    simp only [List.mem_cons, List.not_mem_nil, or_false] at hx
    rcases hx with rfl | rfl
    · exact ⟨_, .inl rfl, rfl⟩
    · exact ⟨_, .inr rfl, rfl⟩
  obtain ⟨t, ht, rfl⟩ : ∃ s : Str, (s = "plain" ∨ s = "with") ∧ y = .str s := by
    simp only [List.mem_cons, List.not_mem_nil, or_false] at hy
    rcases hy with rfl | rfl
    · exact ⟨_, .inr rfl, rfl⟩
    · exact ⟨_, .inl rfl, rfl⟩
  exact h ⟨1 + v, s, 1 + w, 1 + u, t⟩ M5 ⟨⟨by show 1 ≤ 1 + v; omega, by show 1 + v ≤ 5; omega⟩, hs, ⟨by show 1 ≤ 1 + w; omega, by show 1 + w ≤ 1 + v; omega⟩, ⟨by show 1 ≤ 1 + u; omega, by show 1 + u ≤ 1 + v; omega⟩, ht⟩ ((((hB1.trans hB2).trans hB3).trans hB4).trans hB5) (kg_le hK5 (by omega))
theorem kp_w_hosts (C : Addr) : Keeps N_w_hosts 5 (sd_w_hosts C) (db_w_hosts C) := by
  rintro ds M q ex hl ⟨k, c, g, size, L, nl, many, each, rfl, hS, hsz, hnl, m1, m10, e1, e16, hmL, hK, hg, h⟩
  show db_w_hosts C _ [some (.cel k), some (.cel c), some (strsL nl), some (.int many), some (.int each), none, none] M
  unfold db_w_hosts
  have hkc := slots_ne hK hS
  have hSA := hS.at_
  have hn10 : nl.length = 10 := hnl.length_eq
  infer_instance
  intro f hf
  have hfk := kg_ne hK hf
  have hfc : f ≠ c := fun e => by rw [e, hSA] at hf; cases hf
  infer_instance
  refine for_rng (n := ((many : Nat) : Int).toNat) (fun i env M' => ∃ (hs : List Host) (L' : List Int) (w6 : Option D), env = [some (.cel k), some (.cel c), some (strsL nl), some (.int many), some (.int each), some (.cel f), w6] ∧ M' f = some (.ls (hs.map hostD)) ∧ hs.map (·.name) = nl.take i ∧ hs.Pairwise Apart ∧ (∀ o ∈ hs, HostT size o ∧ o.marks.length ≤ each ∧ ∀ m ∈ o.marks, m ∈ L ∧ m ∉ L') ∧ L'.Sublist L ∧ L.length ≤ L'.length + i * each ∧ Slots M' c size L' ∧ KeptC k c M M' ∧ Kg M' k (g + 100 * (i : Int))) ?_ ?_ _ _
    ⟨[], L, _, rfl, mset_same, rfl, .nil, fun o ho => by simp at ho, List.Sublist.refl _, by omega, { hS with at_ := by rw [mset_ne (Ne.symm hfc)]; exact hSA }, (KeptC.refl M).put hf, by rw [show g + 100 * ((0 : Nat) : Int) = g by omega]; exact kg_put hK hf⟩
  · rintro env M' ⟨hs, L', w6, rfl, hF, hnm, hap, heach, hsub, hlen, hS', hC', hKg⟩
    refine ⟨trivial, ?_⟩
    have hhl : hs.length = many := by
      have := congrArg List.length hnm
      rw [List.length_map, List.length_take] at this
      omega
    infer_instance
    refine ⟨_, _, rfl, celL_of hF, ?_⟩
    refine h hs M' (crew_of (fun e => by rw [e] at hhl; simp at hhl; omega) (by omega) (fun o ho => (heach o ho).1) hap) hhl (fun o ho => ⟨?_, (heach o ho).2.1⟩) hC' (kg_le hKg (by omega))
    have : o.name ∈ nl.take (many : Int).toNat := by rw [← hnm]; exact List.mem_map_of_mem ho
    exact hnl.mem_iff.mp (List.mem_of_mem_take this)
  · rintro i env M' hi ⟨hs, L', w6, rfl, hF, hnm, hap, heach, hsub, hlen, hS', hC', hKg⟩ nx hnx
    refine ⟨trivial, ?_⟩
    have hhl : hs.length = i := by
      have := congrArg List.length hnm
      rw [List.length_map, List.length_take] at this
      omega
    have hilt : i < nl.length := by omega
    have hme : (i + 1) * each ≤ many * each := Nat.mul_le_mul_right _ (by omega)
    rw [Nat.succ_mul] at hme
    infer_instance
    refine ⟨f, _, rfl, hF, ?_⟩
    infer_instance
    refine ix_lst (show atI (nl.map D.str) (0 + (i : Int)) = some (.str nl[i]) from by rw [Int.zero_add]; exact DL.atI_nat (by rw [List.getElem?_map, List.getElem?_eq_getElem hilt]; rfl)) ?_
    infer_instance
    refine ⟨k, .lst [.str "r", .str "r1", .str "a"], [.str "r", .str "r1", .str "a"], _, rfl, (fun e => by cases e), rfl, by decide, by decide, hKg, by omega, fun x M2 hx hB2 hK2 => ?_⟩
    obtain ⟨rk, hrk, rfl⟩ : ∃ s : Str, nameB s = true ∧ x = .str s := by
      have e : ([.str "r", .str "r1", .str "a"] : List D) = (["r", "r1", "a"] : List Str).map D.str := rfl
      rw [e] at hx
      obtain ⟨s, hs, rfl⟩ := List.mem_map.mp hx
      exact ⟨s, racks_ok s hs, rfl⟩
    have hS2 := slots_b hKg hS' hB2
    have hF2 := hB2 _ _ hF hfk
    infer_instance
    refine ⟨k, _, _, rfl, by omega, by omega, hK2, by omega, fun v M3 v0 v1 hB3 hK3 => ?_⟩
    have hS3 := slots_b hK2 hS2 hB3
    have hF3 := hB3 _ _ hF2 hfk
    obtain ⟨j, rfl⟩ := Int.eq_ofNat_of_zero_le v0
    infer_instance
    have e1j : (1 + (j : Int)) = ((1 + j : Nat) : Int) := by omega
    rw [e1j]
    refine ⟨k, c, _, size, L', 1 + j, rfl, hS3, hsz, by omega, by omega, by omega, hK3, by omega, fun ms L2 M4 hmo hml hms hsub2 hlen2 hS4 hC4 hK4 => ?_⟩
    have hF4 := hC4 _ _ hF3 hfk hfc
    infer_instance
    have hnB : nameB nl[i] = true := (pool_ok _ (hnl.mem_iff.mp (List.getElem_mem hilt))).1
    have hml2 : ms.length = 1 + j := by omega
    refine ⟨_, _, rfl, hF4, by rw [List.length_map, sizeLine_eq]; omega, hnx _ _ ⟨hs ++ [⟨nl[i], rk, ms⟩], L2, _, rfl, ?_, ?_, ?_, fun o ho => ?_, hsub2.trans hsub, by rw [Nat.succ_mul]; omega, { hS4 with at_ := by rw [mset_ne (Ne.symm hfc)]; exact hS4.at_ }, ((((hC'.trans (KeptC.ofB hB2)).trans (KeptC.ofB hB3))).trans hC4).put hf, kg_le (kg_other hK4 hfk) (by omega)⟩⟩
    · rw [mset_same, List.map_append]; rfl
    · rw [List.map_append, hnm, List.take_succ, List.getElem?_eq_getElem hilt]; rfl
    · rw [List.pairwise_append]
      refine ⟨hap, List.pairwise_singleton _ _, fun a ha b hb => ?_⟩
      rw [List.mem_singleton.mp hb]
      refine ⟨fun e => ?_, fun m hm z => ((heach a ha).2.2 m z).2 (hms m hm).1⟩
      have h1 : a.name ∈ nl.take i := by rw [← hnm]; exact List.mem_map_of_mem ha
      obtain ⟨n, hn1, hn2⟩ := List.mem_take_iff_getElem.mp h1
      have hnd : nl.Nodup := hnl.nodup_iff.mpr pool_nd
      exact (List.pairwise_iff_getElem.mp hnd n i (by omega) hilt (by omega)) (hn2.trans e)
    · rcases List.mem_append.mp ho with ho | ho
      · obtain ⟨a1, a2, a3⟩ := heach o ho
        exact ⟨a1, a2, fun m hm => ⟨(a3 m hm).1, fun z => (a3 m hm).2 (hsub2.subset z)⟩⟩
      · rw [List.mem_singleton.mp ho]
        exact ⟨⟨hnB, hrk, hmo⟩, by show ms.length ≤ each; omega, fun m hm => ⟨hsub.subset (hms m hm).1, (hms m hm).2⟩⟩
theorem kp_w_small (C : Addr) : Keeps N_w_small 5 (sd_w_small C) (db_w_small C) := by
  rintro ds M q ex hl ⟨k, g, rfl, hK, hg, h⟩
  show db_w_small C _ [some (.cel k), some (.int 12), some (.int 20), some (.int 4), some (.int 2), none, none, none] M
  unfold db_w_small
  infer_instance
  refine ⟨k, _, g, rfl, by omega, by omega, hK, by omega, fun v M1 v0 v1 hB1 hK1 => ?_⟩
  infer_instance
  refine ⟨k, _, 12 + v, 3, rfl, by omega, by omega, hK1, by omega, fun r M2 hr hB2 hK2 => ?_⟩
  have er : rulesT (12 + v) r = .tup [.int (12 + v), .int r.wide, .str r.spread, .int r.write, .int r.read, .str r.pend] := rfl
  infer_instance
  rw [er]
  refine ix_tup (i := 0) rfl ?_
  infer_instance
  refine ⟨12 + v, rfl, by omega, by omega, fun c L M3 hcn hK23 hS3 hLs => ?_⟩
  have hK3 := kg_kept hK2 hK23
  infer_instance
  refine ⟨k, _, rfl, hK3, by omega, fun nl M4 hnl hB4 hK4 => ?_⟩
  have hS4 := slots_b hK3 hS3 hB4
  infer_instance
  refine ⟨k, _, _, rfl, by omega, by omega, hK4, by omega, fun w M5 w0 w1 hB5 hK5 => ?_⟩
  have hS5 := slots_b hK4 hS4 hB5
  obtain ⟨j, rfl⟩ := Int.eq_ofNat_of_zero_le w0
  infer_instance
  have e1j : (1 + (j : Int)) = ((1 + j : Nat) : Int) := by omega
  rw [e1j]
  refine ⟨k, c, _, 12 + v, L, nl, 1 + j, 2, rfl, hS5, by omega, hnl, by omega, by omega, by omega, by omega, by omega, hK5, by omega, fun hs M6 hc hhl hh hC6 hK6 => ?_⟩
  infer_instance
  refine h (12 + v) r hs nl c M6 (by omega) (by omega) hr hc (by omega) hh (fun d x hd hdk => ?_) (kg_le hK6 (by omega))
  have h2 := hB2 _ _ (hB1 _ _ hd hdk) hdk
  have hdc : d ≠ c := fun e => by rw [e, hcn] at h2; cases h2
  exact hC6 _ _ (hB5 _ _ (hB4 _ _ (hK23 _ _ h2) hdk) hdk) hdk hdc
theorem kp_w_made (C : Addr) : Keeps N_w_made 2 (sd_w_made C) (db_w_made C) := by
  rintro ds M q ex hl ⟨size, r, hs, rfl, s0, s1, hr, hc, h⟩
  show db_w_made C _ [some (rulesT size r), some (crewD hs)] M
  have er : rulesT size r = .tup [.int size, .int r.wide, .str r.spread, .int r.write, .int r.read, .str r.pend] := rfl
  rw [er]
  unfold db_w_made
  infer_instance
  intro c hcn
  refine ⟨c, size, r, hs, rfl, mset_same, s0, s1, hr, hc, rfl, fieldsD size r hs, ?_, ?_⟩
  · rw [mset_mset, mset_same]
  · rw [mset_mset]
    exact h _ ((Kept.new hcn).del hcn)
end L47
set_option maxRecDepth 100000
set_option maxHeartbeats 1000000
namespace L47
open PySem PySem.Spec PyProof.Rows L2 DL R
local macro_rules | `(tactic| bv_omega) => `(tactic| first | assumption | exact mset_same)
local macro_rules | `(tactic| symm) => `(tactic| first
  | ((with_reducible show ∃ _, _ = _ ∧ _); refine ⟨_, rfl, ?_⟩)
  | ((with_reducible show _ = _ ∧ _); refine ⟨rfl, ?_⟩)
  | ((with_reducible show ∃ _ _, _ = _ ∧ _ = _ ∧ _); refine ⟨_, _, rfl, rfl, ?_⟩)
  | ((with_reducible show ∃ _ _, _ = _ ∧ _); refine ⟨_, _, rfl, ?_⟩)
  | ((with_reducible show ∃ _ _ _, _ = _ ∧ _); refine ⟨_, _, _, rfl, ?_⟩)
  | ((with_reducible show (_ ≤ _ ∧ _) ∧ _); refine ⟨by omega, ?_⟩)
  | with_reducible refine add_int ?_ | with_reducible refine sub_int ?_
  | with_reducible refine lt_int ?_ | with_reducible refine le_int ?_ | with_reducible refine gt_int ?_ | with_reducible refine ge_int ?_
  | with_reducible refine int_int ?_
  | with_reducible refine eq_int ?_ | with_reducible refine ne_int ?_
  | with_reducible refine len_tup ?_ | with_reducible refine len_lst ?_
  | ((with_reducible show rdIx (.cel _) (.int _) _ _); refine ix_cel (by bv_omega) (by rfl) ?_)
  | ((with_reducible show rdIx (.lst _) (.int _) _ _); refine ix_lst (by rfl) ?_)
  | ((with_reducible show rdIx (.tup _) (.int _) _ _); refine ix_tup (by rfl) ?_)
  | ((with_reducible show rdLen [.cel _] _ _); refine len_cel (by bv_omega) ?_)
  | ((with_reducible show rdMul (.int _) (.int _) _ _); first | refine mul_l (by decide) (by decide) ?_ | refine mul_r (by decide) (by decide) ?_ | refine mul_l (by omega) (by omega) ?_ | refine mul_r (by omega) (by omega) ?_)
  | ((with_reducible show rdDiv (.int _) (.int _) _ _); refine div_int (by first | decide | assumption | omega) (by first | decide | assumption | omega) ?_)
  | ((with_reducible show rdDivmod [.int _, .int _] _ _); refine dm_int (by first | decide | assumption | omega) (by first | decide | assumption | omega) ?_)
  | ((with_reducible show @ite _ (_ = true) _ _ _); first | refine ifYes (by first | with_reducible rfl | exact Bool.not_false | assumption) ?_ | refine ifNo (by first | with_reducible rfl | exact Bool.not_true | assumption) ?_)
  | ((with_reducible show ∃ _, _ ∧ _); refine ⟨_, celL_of (by bv_omega), ?_⟩)
  | ((with_reducible show ∃ _ _ _ _, _ ∧ _ ∧ _ ∧ _ ∧ _); refine ⟨_, _, _, _, rfl, rfl, by bv_omega, by rfl, ?_⟩)
  | ((with_reducible show (_ : Nat) ≤ sizeLine ∧ _); refine ⟨by rw [sizeLine_eq]; exact Nat.le_of_ble_eq_true rfl, ?_⟩))
local macro_rules | `(tactic| infer_instance) => `(tactic| ((repeat symm); try dsimp only))
local macro_rules | `(tactic| ac_rfl) => `(tactic| ((repeat (first | symm | ((with_reducible show rdMod (.int _) (.int _) _ _); refine mod_any (by first | decide | assumption | omega) ?_; intro _ _ _))); try dsimp only))
open Classical in
noncomputable def wayV (size p : Int) (ms : List Int) : Int := if h : ∃ m, IsWay size p ms m then h.choose else 0
theorem wayV_of {size p m : Int} {ms : List Int} (h : IsWay size p ms m) : wayV size p ms = m := by
  have e : ∃ m, IsWay size p ms m := ⟨m, h⟩
  unfold wayV
  rw [dif_pos e]
  have h2 := e.choose_spec
  exact Int.le_antisymm (h2.2 _ h.1) (h.2 _ h2.1)
theorem firsts_racks {hs : List Host} {ns : List Str} : ∀ i, i ≤ ns.length → ∀ y, y ∈ (firstsN hs ns i).map (rackOf hs) ↔ y ∈ (ns.take i).map (rackOf hs)
  | 0, _, y => by simp [firstsN]
  | i + 1, hi, y => by
    have ih := firsts_racks (hs := hs) (ns := ns) i (by omega) y
    have hx := List.getElem?_eq_getElem (show i < ns.length by omega)
    have et : (ns.take (i + 1)).map (rackOf hs) = (ns.take i).map (rackOf hs) ++ [rackOf hs ns[i]] := by rw [List.take_add_one, hx, List.map_append]; rfl
    have step : firstsN hs ns (i + 1) = if rackOf hs ns[i] ∈ (ns.take i).map (rackOf hs) then firstsN hs ns i else firstsN hs ns i ++ [ns[i]] := by
      show (match ns[i]? with | some x => _ | none => _) = _
      rw [hx]
    rw [et, List.mem_append, step]
    split
    · rename_i hb
      rw [ih, List.mem_singleton]
      constructor
      · exact .inl
      · rintro (h | h)
        · exact h
        · rw [h]; exact hb
    · rw [List.map_append, List.mem_append, ih]
      rfl
theorem kp_w_keepers (C : Addr) : Keeps N_w_keepers 3 (sd_w_keepers C) (db_w_keepers C) := by
  rintro ds M q ex hl ⟨size, p, r, hs, rfl, s0, hc, hr, h⟩
  show db_w_keepers C _ [some (rulesT size r), some (crewD hs), some (.int p), none, none, none, none, none, none, none, none, none, none] M
  have er : rulesT size r = .tup [.int size, .int r.wide, .str r.spread, .int r.write, .int r.read, .str r.pend] := rfl
  rw [er]
  unfold db_w_keepers
  have hsp : PyData.strOk r.spread = true := by
    rcases hr.s with e | e <;> rw [e] <;> decide +kernel
  obtain ⟨w, hwd⟩ := Int.eq_ofNat_of_zero_le (show 0 ≤ r.wide by have := hr.w; omega)
  have hf := hc.few
  infer_instance
  intro c hcn
  refine lc_all hostD (fun o => DL.pairD (wayV size p o.marks, o.name)) hcn (by rw [sizeLine_eq]; omega) (fun _ => rfl) (fun o ho acc hz nx hnx => ?_) ?_
  · have hm := crew_marks hc o ho
    have h16 := hm.few
    infer_instance
    intro c2 hc2
    have hcc : c ≠ c2 := fun e => by rw [← e, mset_same] at hc2; cases hc2
    refine lc_all D.int (fun m => D.int ((m - p) % size)) hc2 (by rw [sizeLine_eq]; omega) (fun _ => rfl) (fun m hmm acc2 hz2 nx2 hnx2 => ?_) ?_
    · infer_instance
      refine mod_int s0 ?_
      exact acc_put hz2 hnx2
    have e : (o.marks.map fun m => D.int ((m - p) % size)) = (o.marks.map fun m => (m - p) % size).map D.int := by rw [List.map_map]; rfl
    rw [e]
    refine ⟨_, _, _, rfl, rfl, DL.ints_map _, by rw [List.length_map]; exact hm.ne, fun m h1 h2 => ?_⟩
    infer_instance
    have ew : wayV size p o.marks = m := wayV_of ⟨h1, h2⟩
    rw [← ew]
    exact acc_put hz hnx
  have ep : (hs.map fun o => DL.pairD (wayV size p o.marks, o.name)) = (hs.map fun o => (wayV size p o.marks, o.name)).map DL.pairD := by rw [List.map_map]; rfl
  rw [ep]
  have hway : ∀ o ∈ hs, IsWay size p o.marks (wayV size p o.marks) := fun o ho => by
    obtain ⟨ws, _, _, hp, ha⟩ := walkF_ok hc p
    obtain ⟨a, hma, ea⟩ := List.mem_map.mp (hp.mem_iff.mpr (List.mem_map_of_mem (f := (·.name)) ho))
    obtain ⟨o', ho', eo, hw⟩ := ha a hma
    have : o' = o := crew_inj hc ho' ho (eo.trans ea)
    rw [← this, wayV_of hw]; exact hw
  infer_instance
  refine ⟨_, _, _, rfl, rfl, pairsD_map _, fun a ma b mb e => ?_, fun ps' hp hs' => ?_⟩
  · obtain ⟨o, mo, rfl⟩ := List.mem_map.mp ma
    obtain ⟨o', mo', rfl⟩ := List.mem_map.mp mb
    have w1 := hway o mo
    have w2 := hway o' mo'
    have e' : wayV size p o.marks = wayV size p o'.marks := e
    rw [e'] at w1
    rw [way_apart hc mo mo' w1 w2]
  infer_instance
  intro c3 hc3
  have hlen : ps'.length ≤ 12 := by rw [hp.length_eq, List.length_map]; exact hf
  refine lc_all DL.pairD (fun a => D.str a.2) hc3 (by rw [sizeLine_eq]; omega) (fun _ => rfl) (fun a ha acc hz nx hnx => ?_) ?_
  · have ea : DL.pairD a = .tup [.int a.1, .str a.2] := rfl
    rw [ea]
    infer_instance
    exact acc_put hz hnx
  have hw : WalkOf size p hs (ps'.map (·.2)) := by
    refine ⟨ps', hs', rfl, ?_, fun a m => ?_⟩
    · have := hp.map (·.2)
      rw [List.map_map] at this
      exact this
    · obtain ⟨o, ho, rfl⟩ := List.mem_map.mp (hp.mem_iff.mp m)
      exact ⟨o, ho, rfl, hway o ho⟩
  have ens : (ps'.map fun a => D.str a.2) = (ps'.map (·.2)).map D.str := by rw [List.map_map]; rfl
  rw [ens]
  have hnd := walk_nd hc hw
  have hin := walk_in hw
  have hlen := walk_len hw
  have ekf : keepF size r hs p = keepersOf r hs (walkF size hs p) := rfl
  rw [ekf, ← walk_eq hc hw] at h
  generalize ps'.map (·.2) = ns at *
  infer_instance
  refine eq_str hsp (by decide +kernel) ?_
  infer_instance
  refine ifD (fun e => ?_) (fun e => ?_)
  · infer_instance
    rw [hwd]
    refine sl_lst (n := w) ?_
    rw [← List.map_take]
    have e2 : keepersOf r hs ns = ns.take w := by unfold keepersOf; rw [if_neg (by rw [e]; decide), hwd]; rfl
    rw [e2] at h
    exact h M (Kept.refl M)
  · infer_instance
    intro c4 hc4
    refine lc_all hostD (fun o => .tup [.str o.name, .str o.rack]) hc4 (by rw [sizeLine_eq]; omega) (fun _ => rfl) (fun o ho acc hz nx hnx => ?_) ?_
    · infer_instance
      exact acc_put hz hnx
    infer_instance
    refine ⟨_, _, _, rfl, rfl, bays_kv hs, fun a han => ?_⟩
    infer_instance
    intro f hf0
    infer_instance
    have hfa : f ≠ a := fun e => by rw [e, mset_same] at hf0; cases hf0
    have hf1 : M f = none := by rw [mset_ne hfa] at hf0; exact hf0
    have hml : (ns.map D.str).length = ns.length := List.length_map _
    refine for_map D.str (xs := ns) (fun i env M' => ∃ w7 : Option D, env = [some (.tup [.int size, .int r.wide, .str r.spread, .int r.write, .int r.read, .str r.pend]), some (crewD hs), some (.int p), some (.lst ((hs.map fun o => (wayV size p o.marks, o.name)).map DL.pairD)), some (strsL ns), some (.cel a), some (.cel f), w7, none, none, none, none, none] ∧ M' a = some (.dc (mergeD [] (bayL hs))) ∧ M' f = some (.ls ((firstsN hs ns i).map D.str)) ∧ Kept M M') ?_ ?_ _ _
      ⟨none, rfl, by rw [mset_ne (Ne.symm hfa), mset_same], mset_same, (Kept.new han).put hf1⟩
    · rintro env M' ⟨w7, rfl, hA, hF, hK⟩
      refine ⟨rfl, ?_⟩
      infer_instance
      rw [hwd]
      refine sl_cel (n := w) hF ?_
      rw [← List.map_take]
      infer_instance
      intro c2 hc2
      refine lc_map D.str (fun x => !decide (x ∈ (firstsN hs ns ns.length).take w)) D.str hc2 (by rw [sizeLine_eq]; omega) (fun _ => rfl) (fun x hx acc hz nx hyes hno => ?_) ?_
      · infer_instance
        refine ni_str (xs := (firstsN hs ns ns.length).take w) rfl ?_
        infer_instance
        refine ifB (fun hb => ?_) (fun hb => ?_)
        · infer_instance
          exact acc_put hz (hyes hb)
        · exact hno hb
      · infer_instance
        rw [List.length_map]
        have hfl := (firsts_in (hs := hs) (ns := ns) ns.length).1
        have hT : ((firstsN hs ns ns.length).take w).length ≤ w := by rw [List.length_take]; omega
        rw [show ((w : Nat) : Int) - (((firstsN hs ns ns.length).take w).length : Nat) = ((w - ((firstsN hs ns ns.length).take w).length : Nat) : Int) by omega]
        refine sl_lst ?_
        rw [← List.map_take]
        refine add_lst rfl rfl (by
          rw [List.length_map, List.length_map, List.length_take, List.length_take, sizeLine_eq]
          have := List.length_filter_le (fun x => !decide (x ∈ (firstsN hs ns ns.length).take w)) ns
          omega) ?_
        rw [← List.map_append]
        have ek := keep_law (hs := hs) hr hnd e
        rw [hwd] at ek
        rw [← ek] at h
        exact h M' hK
    · rintro i x env M' hx ⟨w7, rfl, hA, hF, hK⟩ nx hnx
      refine ⟨rfl, ?_⟩
      have hi' := (List.getElem?_eq_some_iff.mp hx).1
      have hxm := List.mem_of_getElem? hx
      have hfl := (firsts_in (hs := hs) (ns := ns) i).1
      have step : firstsN hs ns (i + 1) = if rackOf hs x ∈ (ns.take i).map (rackOf hs) then firstsN hs ns i else firstsN hs ns i ++ [x] := by
        show (match ns[i]? with | some x => _ | none => _) = _
        rw [hx]
      infer_instance
      refine ⟨a, _, .inr x, _, rfl, hA, rfl, bays_at hc (hin x hxm), ?_⟩
      infer_instance
      intro c2 hc2
      have hca : a ≠ c2 := fun e => by rw [← e, hA] at hc2; cases hc2
      have hcf : f ≠ c2 := fun e => by rw [← e, hF] at hc2; cases hc2
      refine lc_all D.str (fun y => D.str (rackOf hs y)) hc2 (by rw [sizeLine_eq]; omega) (fun _ => by rw [show seqOf _ (D.cel f) = celL _ f from rfl, celL_of (by rw [mset_ne hcf]; exact hF)]) (fun y hy acc hz nx2 hnx2 => ?_) ?_
      · infer_instance
        refine ⟨a, _, .inr y, _, rfl, by rw [mset_ne hca]; exact hA, rfl, bays_at hc (hin y ((firsts_in i).2 y hy)), ?_⟩
        infer_instance
        exact acc_put hz hnx2
      have ey : ((firstsN hs ns i).map fun y => D.str (rackOf hs y)) = ((firstsN hs ns i).map (rackOf hs)).map D.str := by rw [List.map_map]; rfl
      rw [ey]
      refine ni_str (xs := (firstsN hs ns i).map (rackOf hs)) rfl ?_
      infer_instance
      have hiff := firsts_racks (hs := hs) (ns := ns) i (by omega) (rackOf hs x)
      refine ifB (fun hb => ?_) (fun hb => ?_)
      · have hb' : rackOf hs x ∉ (firstsN hs ns i).map (rackOf hs) := by simpa using hb
        rw [if_neg (fun z => hb' (hiff.mpr z))] at step
        infer_instance
        refine ⟨f, _, rfl, hF, ?_⟩
        infer_instance
        refine ⟨_, _, rfl, hF, by rw [List.length_map, sizeLine_eq]; omega, hnx _ _ ⟨_, rfl, by rw [mset_ne (Ne.symm hfa)]; exact hA, by rw [mset_same, step, List.map_append]; rfl, hK.put hf1⟩⟩
      · have hb' : rackOf hs x ∈ (firstsN hs ns i).map (rackOf hs) := by simpa using hb
        rw [if_pos (hiff.mp hb')] at step
        exact hnx _ _ ⟨_, rfl, hA, by rw [step]; exact hF, hK⟩
theorem kp_w_table (C : Addr) : Keeps N_w_table 2 (sd_w_table C) (db_w_table C) := by
  rintro ds M q ex hl ⟨size, r, hs, rfl, s0, s100, hc, hr, h⟩
  show db_w_table C _ [some (rulesT size r), some (crewD hs), none] M
  unfold db_w_table
  have er : rulesT size r = .tup [.int size, .int r.wide, .str r.spread, .int r.write, .int r.read, .str r.pend] := rfl
  infer_instance
  rw [er]
  refine ix_tup (i := 0) rfl ?_
  rw [← er]
  infer_instance
  intro c hcn
  have ern : rngD 0 size.toNat = (List.range size.toNat).map fun i : Nat => D.int (0 + (i : Int)) := rfl
  rw [ern]
  refine lc_kept (fun i : Nat => D.int (0 + (i : Int))) (fun i : Nat => strsL (keepF size r hs (i : Int))) hcn (by rw [List.length_range, sizeLine_eq]; omega) (fun _ _ => trivial) (fun x hx M1 hK1 K K2 hk => ?_) fun M' hK' => h M' hK'
  infer_instance
  refine ⟨size, _, r, hs, rfl, s0, hc, hr, fun M3 hK3 => ?_⟩
  rw [Int.zero_add]
  exact hk M3 hK3
/-- all parts up to so many -/
def grow (many : Nat) (acc : List (List Str)) (w : Str) : List (List Str) := acc ++ (acc.filter fun X => decide (X.length < many)).map fun X => X ++ [w]
theorem grow_mem {many : Nat} {acc : List (List Str)} {w : Str} {X : List Str} : X ∈ grow many acc w ↔ X ∈ acc ∨ ∃ Y ∈ acc, Y.length < many ∧ X = Y ++ [w] := by
  unfold grow
  rw [List.mem_append, List.mem_map]
  constructor
  · rintro (h | ⟨Y, hY, e⟩)
    · exact .inl h
    · obtain ⟨h1, h2⟩ := List.mem_filter.mp hY
      exact .inr ⟨Y, h1, of_decide_eq_true h2, e.symm⟩
  · rintro (h | ⟨Y, h1, h2, e⟩)
    · exact .inl h
    · exact .inr ⟨Y, List.mem_filter.mpr ⟨h1, decide_eq_true h2⟩, e.symm⟩
theorem sub_snoc {X l : List Str} {w : Str} : X.Sublist (l ++ [w]) ↔ X.Sublist l ∨ ∃ Y, Y.Sublist l ∧ X = Y ++ [w] := by
  rw [List.sublist_append_iff]
  constructor
  · rintro ⟨l1, l2, rfl, h1, h2⟩
    cases h2 with
    | cons _ h3 => rw [List.sublist_nil.mp h3, List.append_nil]; exact .inl h1
    | cons_cons _ h3 => rw [List.sublist_nil.mp h3]; exact .inr ⟨l1, h1, rfl⟩
  · rintro (h | ⟨Y, h, rfl⟩)
    · exact ⟨X, [], by simp, h, by simp⟩
    · exact ⟨Y, [w], rfl, h, List.Sublist.refl _⟩
def grown (many : Nat) (ws : List Str) : List (List Str) := ws.foldl (grow many) [[]]
theorem grown_snoc {many : Nat} {ws : List Str} {w : Str} : grown many (ws ++ [w]) = grow many (grown many ws) w := by
  unfold grown
  rw [List.foldl_append]
  rfl
theorem grown_mem {many : Nat} {ws : List Str} : ∀ n, n ≤ ws.length → ∀ X, X ∈ grown many (ws.take n) ↔ X.Sublist (ws.take n) ∧ X.length ≤ many
  | 0, _, X => by
    show X ∈ [[]] ↔ _
    rw [List.take_zero, List.mem_singleton, List.sublist_nil]
    constructor
    · rintro rfl; exact ⟨rfl, Nat.zero_le _⟩
    · exact fun h => h.1
  | n + 1, hn, X => by
    have ih := grown_mem (many := many) (ws := ws) n (by omega)
    have et : ws.take (n + 1) = ws.take n ++ [ws[n]] := by rw [List.take_add_one, List.getElem?_eq_getElem (by omega)]; rfl
    rw [et, grown_snoc, grow_mem, sub_snoc, ih]
    constructor
    · rintro (⟨h1, h2⟩ | ⟨Y, hY, h2, rfl⟩)
      · exact ⟨.inl h1, h2⟩
      · exact ⟨.inr ⟨Y, ((ih Y).mp hY).1, rfl⟩, by rw [List.length_append, List.length_singleton]; omega⟩
    · rintro ⟨h1 | ⟨Y, hY, rfl⟩, h2⟩
      · exact .inl ⟨h1, h2⟩
      · rw [List.length_append, List.length_singleton] at h2
        exact .inr ⟨Y, (ih Y).mpr ⟨hY, by omega⟩, by omega, rfl⟩
theorem grown_len {many : Nat} {ws : List Str} : ∀ n, n ≤ ws.length → (grown many (ws.take n)).length ≤ 2 ^ n
  | 0, _ => Nat.le_refl _
  | n + 1, hn => by
    have ih := grown_len (many := many) (ws := ws) n (by omega)
    have et : ws.take (n + 1) = ws.take n ++ [ws[n]] := by rw [List.take_add_one, List.getElem?_eq_getElem (by omega)]; rfl
    rw [et, grown_snoc]
    unfold grow
    rw [List.length_append, List.length_map]
    have := List.length_filter_le (fun X : List Str => decide (X.length < many)) (grown many (ws.take n))
    rw [Nat.pow_succ]
    omega
theorem pow_six {n : Nat} (h : n ≤ 6) : 2 ^ n ≤ 64 := Nat.pow_le_pow_right (by omega) h
theorem kp_w_parts (C : Addr) : Keeps N_w_parts 2 (sd_w_parts C) (db_w_parts C) := by
  rintro ds M q ex hl ⟨ws, many, rfl, h6, h⟩
  show db_w_parts C _ [some (strsL ws), some (.int many), none, none, none] M
  unfold db_w_parts
  infer_instance
  refine for_map D.str (xs := ws) (fun i env M' => M' = M ∧ ∃ w3 : Option D, env = [some (strsL ws), some (.int many), some (.lst ((grown many (ws.take i)).map strsL)), w3, none]) ?_ ?_ _ _ ⟨rfl, _, rfl⟩
  · rintro env M' ⟨rfl, w3, rfl⟩
    refine ⟨rfl, ?_⟩
    have hgl := grown_len (many := many) (ws := ws) ws.length (Nat.le_refl _)
    have hgm := grown_mem (many := many) (ws := ws) ws.length (Nat.le_refl _)
    rw [List.take_length] at hgl hgm ⊢
    have h64 := pow_six h6
    infer_instance
    intro c hcn
    refine lc_map strsL (fun X : List Str => decide (X.length = many)) strsL hcn (by rw [sizeLine_eq]; omega) (fun _ => rfl) (fun X hX acc hz nx hyes hno => ?_) ?_
    · infer_instance
      rw [List.length_map]
      refine ifB (fun hb => ?_) (fun hb => ?_)
      · have hb' := of_decide_eq_true hb
        infer_instance
        exact acc_put hz (hyes (decide_eq_true (by omega)))
      · have hb' := of_decide_eq_false hb
        exact hno (decide_eq_false (by omega))
    have hfl := List.length_filter_le (fun X : List Str => decide (X.length = many)) (grown many ws)
    refine h _ _ (by omega) (fun X => ?_) (Kept.refl _)
    rw [List.mem_filter, hgm, decide_eq_true_eq]
    constructor
    · rintro ⟨⟨h1, _⟩, h3⟩; exact ⟨h1, h3⟩
    · rintro ⟨h1, h3⟩; exact ⟨⟨h1, by omega⟩, h3⟩
  · rintro i x env M' hx ⟨rfl, w3, rfl⟩ nx hnx
    refine ⟨rfl, ?_⟩
    have hi' := (List.getElem?_eq_some_iff.mp hx).1
    have hgl := grown_len (many := many) (ws := ws) i (by omega)
    have h64 := pow_six (show i ≤ 6 by omega)
    infer_instance
    intro c hcn
    refine lc_map strsL (fun X : List Str => decide (X.length < many)) (fun X => strsL (X ++ [x])) hcn (by rw [sizeLine_eq]; omega) (fun _ => rfl) (fun X hX acc hz nx hyes hno => ?_) ?_
    · infer_instance
      rw [List.length_map]
      have hXl : X.length ≤ 6 := by
        obtain ⟨z, _⟩ := (grown_mem (many := many) (ws := ws) i (by omega) X).mp hX
        have := z.length_le
        rw [List.length_take] at this
        omega
      refine ifB (fun hb => ?_) (fun hb => ?_)
      · have hb' := of_decide_eq_true hb
        infer_instance
        refine add_lst rfl rfl (by rw [List.length_map, sizeLine_eq]; show _ + 1 ≤ _; omega) ?_
        have e : X.map D.str ++ [.str x] = (X ++ [x]).map D.str := by rw [List.map_append]; rfl
        rw [e]
        exact acc_put hz (hyes (decide_eq_true (by omega)))
      · have hb' := of_decide_eq_false hb
        exact hno (decide_eq_false (by omega))
    have hfl := List.length_filter_le (fun X : List Str => decide (X.length < many)) (grown many (ws.take i))
    refine add_lst rfl rfl (by rw [List.length_map, List.length_map, sizeLine_eq]; omega) ?_
    have et : ws.take (i + 1) = ws.take i ++ [x] := by rw [List.take_add_one, hx]; rfl
    have e : (grown many (ws.take i)).map strsL ++ ((grown many (ws.take i)).filter fun X => decide (X.length < many)).map (fun X => strsL (X ++ [x])) = (grown many (ws.take (i + 1))).map strsL := by
      rw [et, grown_snoc]
      unfold grow
      rw [List.map_append, List.map_map]
      rfl
    rw [e]
    exact hnx _ _ ⟨rfl, _, rfl⟩
theorem setK_new {acc : List (Key × D)} {k : Key} {v : D} (h : k ∉ acc.map (·.1)) : setK acc k v = acc ++ [(k, v)] := by
  unfold setK
  rw [if_neg]
  intro z
  obtain ⟨kv, h1, h2⟩ := List.any_eq_true.mp z
  exact h (List.mem_map.mpr ⟨kv, h1, of_decide_eq_true h2⟩)
theorem merge_new : ∀ {l acc : List (Key × D)}, (acc.map (·.1) ++ l.map (·.1)).Nodup → mergeD acc l = acc ++ l
  | [], acc, _ => (List.append_nil acc).symm
  | (k, v) :: l, acc, h => by
    have h1 : k ∉ acc.map (·.1) := fun z => (List.nodup_append.mp h).2.2 _ z _ List.mem_cons_self rfl
    show mergeD (setK acc k v) l = _
    rw [setK_new h1, merge_new, List.append_assoc]
    · rfl
    · rw [List.map_append, List.append_assoc]
      exact h
theorem home_plain {size : Int} {hs : List Host} (hc : CrewOk size hs) (kind : Str) : mergeD [] (homeL hs kind) = homeL hs kind := by
  rw [merge_new]
  · rfl
  · show (([] : List Key) ++ (homeL hs kind).map (fun kv : Key × D => kv.1)).Nodup
    rw [List.nil_append]
    unfold homeL
    rw [List.map_map]
    have := crew_nodup hc
    unfold List.Nodup at this ⊢
    rw [List.pairwise_map] at this ⊢
    refine this.imp ?_
    intro a b n e
    exact n (Sum.inr.inj e)
theorem kind_ok {kind : Str} (h : kind = "hosts" ∨ kind = "racks") : PyData.strOk kind = true := by
  rcases h with e | e <;> rw [e] <;> decide +kernel
theorem kp_w_words (C : Addr) : Keeps N_w_words 2 (sd_w_words C) (db_w_words C) := by
  rintro ds M q ex hl ⟨size, hs, kind, rfl, hk, hc, h⟩
  show db_w_words C _ [some (crewD hs), some (.str kind), none, none, none, none] M
  unfold db_w_words
  have hf := hc.few
  have hko := kind_ok hk
  infer_instance
  intro c hcn
  refine lc_all hostD (fun o => .tup [.str o.name, .str (homeS kind o)]) hcn (by rw [sizeLine_eq]; omega) (fun _ => rfl) (fun o ho acc hz nx hnx => ?_) ?_
  · infer_instance
    refine eq_str hko (by decide +kernel) ?_
    infer_instance
    refine ifD (fun e => ?_) (fun e => ?_)
    · infer_instance
      rw [show homeS kind o = o.name from if_pos e] at hnx
      exact acc_put hz hnx
    · infer_instance
      rw [show homeS kind o = o.rack from if_neg e] at hnx
      exact acc_put hz hnx
  infer_instance
  refine ⟨_, _, _, rfl, rfl, home_kv kind hs, fun a han => ?_⟩
  rw [home_plain hc]
  infer_instance
  refine ⟨a, _, rfl, mset_same, fun o rs => ?_⟩
  infer_instance
  refine ⟨a, o, rs, _, rfl, mset_same, ?_⟩
  have ev : (homeL hs kind).map (·.2) = hs.map fun o => D.str (homeS kind o) := by unfold homeL; rw [List.map_map]; rfl
  rw [ev]
  refine for_map (fun o => D.str (homeS kind o)) (xs := hs) (fun i env M' => M' = mset (mset M a (.dc (homeL hs kind))) a (.fd o rs (homeL hs kind)) ∧ ∃ (W : List Str) (w4 : Option D), env = [some (crewD hs), some (.str kind), some (.cel a), some (strsL W), w4, none] ∧ W.length ≤ i ∧ W.Nodup ∧ ∀ x, x ∈ W ↔ x ∈ (hs.take i).map (homeS kind)) ?_ ?_ _ _ ⟨rfl, [], _, rfl, Nat.le_refl _, .nil, fun x => by simp⟩
  · rintro env M' ⟨rfl, W, w4, rfl, hWl, hWn, hWi⟩
    rw [List.take_length] at hWi
    refine ⟨mset_same, mset_same, ?_⟩
    rw [mset_mset, mset_mset]
    infer_instance
    refine ⟨_, _, W, rfl, rfl, DL.strs_map _, by omega, fun ys hp hs' => ?_⟩
    infer_instance
    refine h a ys _ han (Kept.new han) (by rw [mset_same, home_plain hc]) (hp.nodup_iff.mpr hWn) fun x => by rw [hp.mem_iff, hWi]
  · rintro i x env M' hx ⟨rfl, W, w4, rfl, hWl, hWn, hWi⟩ nx hnx
    refine ⟨mset_same, ?_⟩
    have hi' := (List.getElem?_eq_some_iff.mp hx).1
    have et : (hs.take (i + 1)).map (homeS kind) = (hs.take i).map (homeS kind) ++ [homeS kind x] := by rw [List.take_add_one, hx, List.map_append]; rfl
    infer_instance
    refine in_str (xs := W) rfl ?_
    infer_instance
    refine ifB (fun hb => ?_) (fun hb => ?_)
    · have hb' := of_decide_eq_true hb
      infer_instance
      refine hnx _ _ ⟨rfl, W, _, rfl, by omega, hWn, fun y => ?_⟩
      rw [et, List.mem_append, List.mem_singleton, hWi]
      constructor
      · exact .inl
      · rintro (z | rfl)
        · exact z
        · exact (hWi _).mp hb'
    · have hb' := of_decide_eq_false hb
      infer_instance
      refine add_lst rfl rfl (by rw [List.length_map, sizeLine_eq]; show _ + 1 ≤ _; omega) ?_
      have e : W.map D.str ++ [.str (homeS kind x)] = (W ++ [homeS kind x]).map D.str := by rw [List.map_append]; rfl
      rw [e]
      refine hnx _ _ ⟨rfl, W ++ [homeS kind x], _, rfl, by rw [List.length_append, List.length_singleton]; omega, ?_, fun y => ?_⟩
      · rw [List.nodup_append]
        refine ⟨hWn, by simp, fun a ha b hb e => ?_⟩
        rw [List.mem_singleton.mp hb] at e
        exact hb' (by rw [← e]; exact ha)
      · rw [et, List.mem_append, List.mem_append, hWi, List.mem_singleton]
/-- a part grows to any length -/
theorem sub_grow : ∀ {X ws : List Str} {m : Nat}, X.Sublist ws → X.length ≤ m → m ≤ ws.length → ∃ Y, X.Sublist Y ∧ Y.Sublist ws ∧ Y.length = m
  | X, [], m, h, h1, h2 => ⟨[], by rw [List.sublist_nil.mp h]; exact List.Sublist.refl _, List.Sublist.refl _, by simp at h2; rw [h2]; rfl⟩
  | X, w :: ws, m, h, h1, h2 => by
    cases h with
    | cons _ h' =>
      by_cases hm : m ≤ ws.length
      · obtain ⟨Y, a, b, c⟩ := sub_grow h' h1 hm
        exact ⟨Y, a, b.trans (List.sublist_cons_self _ _), c⟩
      · exact ⟨w :: ws, h'.trans (List.sublist_cons_self _ _), List.Sublist.refl _, by rw [List.length_cons] at h2 ⊢; omega⟩
    | cons_cons _ h' =>
      rw [List.length_cons] at h1 h2
      obtain ⟨Y, a, b, c⟩ := sub_grow (m := m - 1) h' (by omega) (by omega)
      exact ⟨w :: Y, a.cons_cons w, b.cons_cons w, by rw [List.length_cons]; omega⟩
theorem up_mono {homes L Y : List Str} (h : ∀ x ∈ homes, x ∈ L → x ∈ Y) : upN homes Y ≤ upN homes L := by
  unfold upN
  rw [← List.countP_eq_length_filter, ← List.countP_eq_length_filter]
  refine List.countP_mono_left fun x hx hp => ?_
  simp only [Bool.not_eq_true', decide_eq_false_iff_not] at hp ⊢
  exact fun z => hp (h x hx z)
theorem sub_len : ∀ {X L : List Str}, X.Nodup → (∀ x ∈ X, x ∈ L) → X.length ≤ L.length
  | [], L, _, _ => Nat.zero_le _
  | x :: X, L, nd, h => by
    have hx := h x List.mem_cons_self
    have nd' := List.nodup_cons.mp nd
    have ih := sub_len (X := X) (L := L.erase x) nd'.2 fun y hy => (List.mem_erase_of_ne (fun e => nd'.1 (by rw [← e]; exact hy))).mpr (h y (List.mem_cons_of_mem _ hy))
    rw [List.length_erase_of_mem hx] at ih
    have := List.length_pos_of_mem hx
    rw [List.length_cons]
    omega
theorem homes_in {size p : Int} {r : Rule} {hs : List Host} {kind : Str} (hc : CrewOk size hs) (hr : RuleOk r) : ∀ x ∈ homesF size r hs kind p, x ∈ hs.map (homeS kind) := fun x hx => by
  unfold homesF at hx
  obtain ⟨y, hy, rfl⟩ := List.mem_map.mp hx
  obtain ⟨o, ho, rfl⟩ := List.mem_map.mp (keepF_in hc hr y hy)
  rw [home_one hc kind ho]
  exact List.mem_map_of_mem ho
theorem least_iff {size : Int} {r : Rule} {hs : List Host} {kind : Str} {many : Nat} {W : List Str} {P : List (List Str)} {v : Int} (s1 : 1 ≤ size) (hc : CrewOk size hs) (hr : RuleOk r) (hWn : W.Nodup) (hWi : ∀ x, x ∈ W ↔ x ∈ hs.map (homeS kind))
    (hP : ∀ X, X ∈ P ↔ X.Sublist W ∧ X.length = min many W.length) (hv : ∃ X ∈ P, ∃ p : Nat, p < size.toNat ∧ v = (upN (homesF size r hs kind (p : Int)) X : Int)) (hle : ∀ X ∈ P, ∀ p : Nat, p < size.toNat → v ≤ (upN (homesF size r hs kind (p : Int)) X : Int)) (left : Int) :
    left ≤ v ↔ ∀ p, 0 ≤ p → p < size → ∀ L : List Str, (L.length : Int) ≤ many → left ≤ (upN (homesF size r hs kind p) L : Int) := by
  constructor
  · intro hl p p0 p1 L hL
    have h0 : (W.filter fun x => decide (x ∈ L)).Sublist W := List.filter_sublist
    have h1 : (W.filter fun x => decide (x ∈ L)).length ≤ L.length := sub_len (hWn.sublist h0) fun x hx => of_decide_eq_true (List.mem_filter.mp hx).2
    have h2 := h0.length_le
    obtain ⟨Y, a, b, c⟩ := sub_grow (m := min many W.length) h0 (by omega) (by omega)
    obtain ⟨n, rfl⟩ := Int.eq_ofNat_of_zero_le p0
    have h3 := hle Y ((hP Y).mpr ⟨b, c⟩) n (by omega)
    have h4 : upN (homesF size r hs kind (n : Int)) Y ≤ upN (homesF size r hs kind (n : Int)) L := up_mono fun x hx hxL => a.subset (List.mem_filter.mpr ⟨(hWi x).mpr (homes_in hc hr x hx), decide_eq_true hxL⟩)
    show left ≤ (upN (homesF size r hs kind (n : Int)) L : Int)
    omega
  · intro h
    obtain ⟨X, hX, p, hp, rfl⟩ := hv
    have := ((hP X).mp hX).2
    exact h _ (by omega) (by omega) X (by omega)
theorem kp_w_least_left (C : Addr) : Keeps N_w_least_left 4 (sd_w_least_left C) (db_w_least_left C) := by
  rintro ds M q ex hl ⟨size, r, hs, kind, many, rfl, hk, s1, s100, hc, hr, h6, h⟩
  show db_w_least_left C _ [some (crewD hs), some (tableD size r hs), some (.str kind), some (.int many), none, none, none, none, none, none] M
  unfold db_w_least_left
  have hf := hc.few
  infer_instance
  refine ⟨size, hs, kind, rfl, hk, hc, fun c W M1 hcn hK1 hC hWn hWi => ?_⟩
  infer_instance
  intro f hf0
  have hfc : f ≠ c := fun e => by rw [e, hC] at hf0; cases hf0
  have hWl : W.length ≤ 6 := by
    have := sub_len hWn fun x hx => (hWi x).mp hx
    rw [List.length_map] at this
    omega
  infer_instance
  rw [List.length_map]
  refine min_int fun m m1 m2 hm => ?_
  have em : m = ((min many W.length : Nat) : Int) := by omega
  rw [em]
  infer_instance
  refine ⟨W, min many W.length, rfl, by omega, fun P M2 hPl hP hK2 => ?_⟩
  infer_instance
  have hC2 : M2 c = some (.dc (mergeD [] (homeL hs kind))) := hK2 _ _ (by rw [mset_ne (Ne.symm hfc)]; exact hC)
  have hF2 : M2 f = some (.ls []) := hK2 _ _ mset_same
  have hK12 : Kept M M2 := hK1.trans ((Kept.new hf0).trans hK2)
  have hf00 : M f = none := by
    cases e : M f with
    | none => rfl
    | some x => rw [hK1 _ _ e] at hf0; cases hf0
  refine for_map strsL (xs := P) (fun i env M' => ∃ (w7 w8 : Option D), env = [some (crewD hs), some (tableD size r hs), some (.str kind), some (.int many), some (.cel c), some (strsL W), some (.cel f), w7, w8, none] ∧ M' c = some (.dc (mergeD [] (homeL hs kind))) ∧ M' f = some (.ls (((P.take i).flatMap fun X => (List.range size.toNat).map fun p : Nat => (upN (homesF size r hs kind (p : Int)) X : Int)).map D.int)) ∧ Kept M M') ?_ ?_ _ _ ⟨_, _, rfl, hC2, hF2, hK12⟩
  · rintro env M' ⟨w7, w8, rfl, hC3, hF3, hK3⟩
    refine ⟨rfl, ?_⟩
    rw [List.take_length] at hF3
    infer_instance
    obtain ⟨Y, _, hY2, hY3⟩ := sub_grow (X := []) (m := min many W.length) (List.nil_sublist W) (by simp) (by omega)
    have hYP : Y ∈ P := (hP Y).mpr ⟨hY2, hY3⟩
    have hmem : ∀ v : Int, v ∈ (P.flatMap fun X => (List.range size.toNat).map fun p : Nat => (upN (homesF size r hs kind (p : Int)) X : Int)) ↔ ∃ X ∈ P, ∃ p : Nat, p < size.toNat ∧ v = (upN (homesF size r hs kind (p : Int)) X : Int) := fun v => by
      rw [List.mem_flatMap]
      constructor
      · rintro ⟨X, hX, hv⟩
        obtain ⟨p, hp, rfl⟩ := List.mem_map.mp hv
        exact ⟨X, hX, p, List.mem_range.mp hp, rfl⟩
      · rintro ⟨X, hX, p, hp, rfl⟩
        exact ⟨X, hX, List.mem_map.mpr ⟨p, List.mem_range.mpr hp, rfl⟩⟩
    refine ⟨_, _, _, rfl, celL_of hF3, DL.ints_map _, List.length_pos_of_mem ((hmem _).mpr ⟨Y, hYP, 0, by omega, rfl⟩), fun v hv1 hv2 => ?_⟩
    infer_instance
    exact h v M' (least_iff s1 hc hr hWn hWi hP ((hmem v).mp hv1) fun X hX p hp => hv2 _ ((hmem _).mpr ⟨X, hX, p, hp, rfl⟩)) hK3
  · rintro i X env M' hX ⟨w7, w8, rfl, hC3, hF3, hK3⟩ nx hnx
    refine ⟨rfl, ?_⟩
    have hXW : ∀ x ∈ X, x ∈ W := ((hP X).mp (List.mem_of_getElem? hX)).1.subset
    have hXl : X.length ≤ 6 := by
      have := ((hP X).mp (List.mem_of_getElem? hX)).1.length_le
      omega
    have hil := (List.getElem?_eq_some_iff.mp hX).1
    infer_instance
    have et : (P.take (i + 1)).flatMap (fun X => (List.range size.toNat).map fun p : Nat => (upN (homesF size r hs kind (p : Int)) X : Int)) = ((P.take i).flatMap fun X => (List.range size.toNat).map fun p : Nat => (upN (homesF size r hs kind (p : Int)) X : Int)) ++ (List.range size.toNat).map fun p : Nat => (upN (homesF size r hs kind (p : Int)) X : Int) := by
      rw [List.take_add_one, hX, List.flatMap_append]; simp
    have hsz : ((P.take i).flatMap fun X => (List.range size.toNat).map fun p : Nat => (upN (homesF size r hs kind (p : Int)) X : Int)).length ≤ 6400 := by
      rw [List.length_flatMap]
      have e : (P.take i).map (fun X => ((List.range size.toNat).map fun p : Nat => (upN (homesF size r hs kind (p : Int)) X : Int)).length) = List.replicate (P.take i).length size.toNat := by
        rw [List.eq_replicate_iff]
        refine ⟨List.length_map _, fun b hb => ?_⟩
        obtain ⟨X, _, rfl⟩ := List.mem_map.mp hb
        rw [List.length_map, List.length_range]
      rw [e, List.sum_replicate_nat, List.length_take]
      have : min i P.length * size.toNat ≤ 64 * 100 := Nat.mul_le_mul (by omega) (by omega)
      omega
    generalize ((P.take i).flatMap fun X => (List.range size.toNat).map fun p : Nat => (upN (homesF size r hs kind (p : Int)) X : Int)) = ns0 at *
    refine for_map (fun p : Nat => strsL (keepF size r hs (p : Int))) (xs := List.range size.toNat) (fun j env M'' => ∃ (w8 : Option D), env = [some (crewD hs), some (tableD size r hs), some (.str kind), some (.int many), some (.cel c), some (strsL W), some (.cel f), some (strsL X), w8, none] ∧ M'' c = some (.dc (mergeD [] (homeL hs kind))) ∧ M'' f = some (.ls ((ns0 ++ ((List.range size.toNat).take j).map fun p : Nat => (upN (homesF size r hs kind (p : Int)) X : Int)).map D.int)) ∧ Kept M M'') ?_ ?_ _ _ ⟨_, rfl, hC3, by rw [List.take_zero, List.map_nil, List.append_nil]; exact hF3, hK3⟩
    · rintro env M'' ⟨w8, rfl, hC4, hF4, hK4⟩
      refine ⟨rfl, ?_⟩
      rw [List.take_length, ← et] at hF4
      exact hnx _ _ ⟨_, _, rfl, hC4, hF4, hK4⟩
    · rintro j p env M'' hp ⟨w8, rfl, hC4, hF4, hK4⟩ nx2 hnx2
      refine ⟨rfl, ?_⟩
      have hkl := keepF_len (size := size) (p := (p : Int)) (hs := hs) hr
      have hjl := (List.getElem?_eq_some_iff.mp hp).1
      rw [List.length_range] at hjl
      infer_instance
      refine ⟨f, _, rfl, hF4, ?_⟩
      infer_instance
      intro c3 hc3
      have hcc : c ≠ c3 := fun e => by rw [← e, hC4] at hc3; cases hc3
      refine lc_map D.str (fun x => !decide (homeOf hs kind x ∈ X)) D.str hc3 (by rw [sizeLine_eq]; omega) (fun _ => rfl) (fun x hx acc hz nx3 hyes hno => ?_) ?_
      · infer_instance
        refine ⟨c, _, .inr x, _, rfl, by rw [mset_ne hcc]; exact hC4, rfl, home_at hc (keepF_in hc hr x hx), ?_⟩
        infer_instance
        refine ni_str (xs := X) rfl ?_
        infer_instance
        refine ifB (fun hb => ?_) (fun hb => ?_)
        · infer_instance
          exact acc_put hz (hyes hb)
        · exact hno hb
      infer_instance
      rw [List.length_map]
      have eu : ((keepF size r hs (p : Int)).filter fun x => !decide (homeOf hs kind x ∈ X)).length = upN (homesF size r hs kind (p : Int)) X := by
        unfold upN homesF
        rw [List.filter_map, List.length_map]
        rfl
      rw [eu]
      refine ⟨_, _, rfl, hF4, by rw [List.length_map, List.length_append, List.length_map, List.length_take, List.length_range, sizeLine_eq]; omega, hnx2 _ _ ⟨_, rfl, by rw [mset_ne (Ne.symm hfc)]; exact hC4, ?_, hK4.put hf00⟩⟩
      rw [mset_same, List.take_add_one, hp, List.map_append, List.map_append, List.map_append, List.map_append, List.append_assoc]
      rfl
end L47
set_option maxRecDepth 100000
set_option maxHeartbeats 1000000
namespace L47
open PySem PySem.Spec PyProof.Rows L2 DL R
local macro_rules | `(tactic| bv_omega) => `(tactic| first | assumption | exact mset_same)
local macro_rules | `(tactic| symm) => `(tactic| first
  | ((with_reducible show ∃ _, _ = _ ∧ _); refine ⟨_, rfl, ?_⟩)
  | ((with_reducible show _ = _ ∧ _); refine ⟨rfl, ?_⟩)
  | ((with_reducible show ∃ _ _, _ = _ ∧ _ = _ ∧ _); refine ⟨_, _, rfl, rfl, ?_⟩)
  | ((with_reducible show ∃ _ _, _ = _ ∧ _); refine ⟨_, _, rfl, ?_⟩)
  | ((with_reducible show ∃ _ _ _, _ = _ ∧ _); refine ⟨_, _, _, rfl, ?_⟩)
  | ((with_reducible show (_ ≤ _ ∧ _) ∧ _); refine ⟨by omega, ?_⟩)
  | with_reducible refine add_int ?_ | with_reducible refine sub_int ?_
  | with_reducible refine lt_int ?_ | with_reducible refine le_int ?_ | with_reducible refine gt_int ?_ | with_reducible refine ge_int ?_
  | with_reducible refine int_int ?_
  | with_reducible refine eq_int ?_ | with_reducible refine ne_int ?_
  | with_reducible refine len_tup ?_ | with_reducible refine len_lst ?_
  | ((with_reducible show rdIx (.cel _) (.int _) _ _); refine ix_cel (by bv_omega) (by rfl) ?_)
  | ((with_reducible show rdIx (.lst _) (.int _) _ _); refine ix_lst (by rfl) ?_)
  | ((with_reducible show rdIx (.tup _) (.int _) _ _); refine ix_tup (by rfl) ?_)
  | ((with_reducible show rdLen [.cel _] _ _); refine len_cel (by bv_omega) ?_)
  | ((with_reducible show rdMul (.int _) (.int _) _ _); first | refine mul_l (by decide) (by decide) ?_ | refine mul_r (by decide) (by decide) ?_ | refine mul_l (by omega) (by omega) ?_ | refine mul_r (by omega) (by omega) ?_)
  | ((with_reducible show rdDiv (.int _) (.int _) _ _); refine div_int (by first | decide | assumption | omega) (by first | decide | assumption | omega) ?_)
  | ((with_reducible show rdDivmod [.int _, .int _] _ _); refine dm_int (by first | decide | assumption | omega) (by first | decide | assumption | omega) ?_)
  | ((with_reducible show @ite _ (_ = true) _ _ _); first | refine ifYes (by first | with_reducible rfl | exact Bool.not_false | assumption) ?_ | refine ifNo (by first | with_reducible rfl | exact Bool.not_true | assumption) ?_)
  | ((with_reducible show ∃ _, _ ∧ _); refine ⟨_, celL_of (by bv_omega), ?_⟩)
  | ((with_reducible show ∃ _ _ _ _, _ ∧ _ ∧ _ ∧ _ ∧ _); refine ⟨_, _, _, _, rfl, rfl, by bv_omega, by rfl, ?_⟩)
  | ((with_reducible show (_ : Nat) ≤ sizeLine ∧ _); refine ⟨by rw [sizeLine_eq]; exact Nat.le_of_ble_eq_true rfl, ?_⟩))
local macro_rules | `(tactic| infer_instance) => `(tactic| ((repeat symm); try dsimp only))
local macro_rules | `(tactic| ac_rfl) => `(tactic| ((repeat (first | symm | ((with_reducible show rdMod (.int _) (.int _) _ _); refine mod_any (by first | decide | assumption | omega) ?_; intro _ _ _))); try dsimp only))
theorem kp_is_form_of (C : Addr) : Keeps N_is_form_of 2 (sd_is_form_of C) (db_is_form_of C) := by
  rintro ds M q ex hl ⟨w, rfl, h⟩
  show db_is_form_of C _ [some (wishD w), some (.tup [.tup [.str "share", .int 3], .tup [.str "bears", .int 4], .tup [.str "racks", .int 2]])] M
  unfold db_is_form_of
  cases w with
  | share x n =>
    rw [show wishD (.share x n) = .tup [.str "share", .str x, .int n] from rfl]
    infer_instance
    refine ⟨.tuple [.str "share", .int 3], [.tuple [.str "share", .int 3], .tuple [.str "bears", .int 4], .tuple [.str "racks", .int 2]], rfl, rfl, by decide +kernel, by decide +kernel, ?_⟩
    exact h
  | bears kind down left =>
    rw [show wishD (.bears kind down left) = .tup [.str "bears", .str kind, .int down, .int left] from rfl]
    infer_instance
    refine ⟨.tuple [.str "bears", .int 4], [.tuple [.str "share", .int 3], .tuple [.str "bears", .int 4], .tuple [.str "racks", .int 2]], rfl, rfl, by decide +kernel, by decide +kernel, ?_⟩
    exact h
  | racks m =>
    rw [show wishD (.racks m) = .tup [.str "racks", .int m] from rfl]
    infer_instance
    refine ⟨.tuple [.str "racks", .int 2], [.tuple [.str "share", .int 3], .tuple [.str "bears", .int 4], .tuple [.str "racks", .int 2]], rfl, rfl, by decide +kernel, by decide +kernel, ?_⟩
    exact h
theorem kp_is_wish_for_ring (C : Addr) : Keeps N_is_wish_for_ring 1 (sd_is_wish_for_ring C) (db_is_wish_for_ring C) := by
  rintro ds M q ex hl ⟨w, rfl, hw, h⟩
  show db_is_wish_for_ring C _ [some (wishD w), none, none, none, none] M
  unfold db_is_wish_for_ring
  cases w with
  | share x n =>
    obtain ⟨hx, hn⟩ := hw
    rw [show wishD (.share x n) = .tup [.str "share", .str x, .int n] from rfl]
    infer_instance
    refine ⟨.share x n, rfl, ?_⟩
    infer_instance
    refine eq_str (by decide +kernel) (by decide +kernel) ?_
    rw [show decide (("share" : Str) = "racks") = false by decide +kernel]
    infer_instance
    refine eq_str (by decide +kernel) (by decide +kernel) ?_
    rw [show decide (("share" : Str) = "share") = true by decide +kernel]
    infer_instance
    refine ⟨x, rfl, hx, ?_⟩
    infer_instance
    refine ⟨n, rfl, ?_⟩
    infer_instance
    rw [decide_eq_true (show n ≥ 0 from hn)]
    exact h
  | bears kind down left =>
    obtain ⟨hk, d0, d1, l0, l1⟩ := hw
    rw [show wishD (.bears kind down left) = .tup [.str "bears", .str kind, .int down, .int left] from rfl]
    infer_instance
    refine ⟨.bears kind down left, rfl, ?_⟩
    infer_instance
    refine eq_str (by decide +kernel) (by decide +kernel) ?_
    rw [show decide (("bears" : Str) = "racks") = false by decide +kernel]
    infer_instance
    refine eq_str (by decide +kernel) (by decide +kernel) ?_
    rw [show decide (("bears" : Str) = "share") = false by decide +kernel]
    infer_instance
    refine .inl ⟨kind, ["hosts", "racks"], rfl, ?_⟩
    have hkw : kind ∈ (["hosts", "racks"] : List Str) := by rcases hk with e | e <;> rw [e] <;> simp
    rw [decide_eq_true hkw]
    infer_instance
    refine ⟨down, 0, 12, rfl, ?_⟩
    rw [decide_eq_true ⟨d0, d1⟩]
    infer_instance
    refine ⟨left, 0, 5, rfl, ?_⟩
    rw [decide_eq_true ⟨l0, l1⟩]
    exact h
  | racks m =>
    obtain ⟨m1, m5⟩ := hw
    rw [show wishD (.racks m) = .tup [.str "racks", .int m] from rfl]
    infer_instance
    refine ⟨.racks m, rfl, ?_⟩
    infer_instance
    refine eq_str (by decide +kernel) (by decide +kernel) ?_
    rw [show decide (("racks" : Str) = "racks") = true by decide +kernel]
    infer_instance
    refine ⟨m, 1, 5, rfl, ?_⟩
    rw [decide_eq_true ⟨m1, m5⟩]
    infer_instance
    exact h
theorem merge_app : ∀ (a b acc : List (Key × D)), mergeD acc (a ++ b) = mergeD (mergeD acc a) b
  | [], b, acc => rfl
  | _ :: a, b, acc => merge_app a b _
theorem kp_thin_key (C : Addr) : Keeps N_thin_key 2 (sd_thin_key C) (db_thin_key C) := by
  rintro ds M q ex hl ⟨size, r, hs, m, rfl, s1, hc, hr, h64, h⟩
  show db_thin_key C _ [some (ringD C size r hs), some (.int m), none, none, none, none, none, none] M
  unfold db_thin_key
  have hf := hc.few
  infer_instance
  refine ⟨_, fs_ring, size, r, hs, rfl, ?_⟩
  infer_instance
  intro cd hcd
  refine dc_lst (fun i M' => ∃ s : List (Key × D), M' = mset M cd (.dc s) ∧ s = mergeD [] (bayL (hs.take i)) ∧ s.length ≤ i) ?_ ?_ _ ⟨[], rfl, rfl, Nat.le_refl _⟩
  · rintro M' ⟨s, rfl, es, _⟩
    rw [List.length_map, List.take_length] at es
    refine ⟨rfl, ?_⟩
    have tab : ∀ x : Str, x ∈ hs.map (·.name) → getK s (.inr x) = some (.str (rackOf hs x)) := fun x hx => by rw [es]; exact bays_at hc hx
    have hcd' : (mset M cd (.dc s)) cd = some (.dc s) := mset_same
    have hK0 : Kept M (mset M cd (.dc s)) := Kept.new hcd
    generalize mset M cd (.dc s) = M0 at *
    infer_instance
    refine ⟨size, r, hs, rfl, s1, hc, hr, h64, fun M1 hK1 => ?_⟩
    infer_instance
    refine for_map (cellD size r hs) (xs := partF size (allM hs)) (fun i env M' => ∃ w3 w4 w5 w6 w7 : Option D, Kept M0 M' ∧ env = [some (ringD C size r hs), some (.int m), some (.cel cd), w3, w4, w5, w6, w7] ∧ ∀ t ∈ (partF size (allM hs)).take i, m ≤ (racksN size r hs t.2.2 : Int)) ?_ ?_ _ _ ⟨_, _, _, _, _, hK1, rfl, by simp⟩
    · rintro env M' ⟨w3, w4, w5, w6, w7, hK, rfl, hno⟩
      refine ⟨rfl, ?_⟩
      rw [List.take_length] at hno
      infer_instance
      refine h .non M' ?_ (hK0.trans hK)
      show true = List.all _ _
      exact (List.all_eq_true.mpr fun t ht => decide_eq_true (hno t ht)).symm
    · rintro i t env M' ht ⟨w3, w4, w5, w6, w7, hK, rfl, hno⟩ nx hnx
      refine ⟨rfl, ?_⟩
      have hkl := keepF_len (size := size) (p := t.2.2) (hs := hs) hr
      have hD := hK _ _ hcd'
      show gdTup 3 _ (.tup [.int t.1, .int t.2.1, strsT (keepF size r hs t.2.2)]) _ _ _ _
      infer_instance
      intro c hcn
      have hdc : cd ≠ c := fun e => by rw [← e, hD] at hcn; cases hcn
      refine lc_all D.str (fun x => .str (rackOf hs x)) hcn (by rw [sizeLine_eq]; omega) (fun _ => rfl) (fun x hx acc hz nx2 hnx2 => ?_) ?_
      · infer_instance
        refine ⟨cd, _, .inr x, _, rfl, by rw [mset_ne hdc]; exact hD, rfl, tab x (keepF_in hc hr x hx), ?_⟩
        infer_instance
        exact acc_put hz hnx2
      have e0 : ((keepF size r hs t.2.2).map fun x => D.str (rackOf hs x)) = ((keepF size r hs t.2.2).map (rackOf hs)).map D.str := by rw [List.map_map]; rfl
      rw [e0]
      infer_instance
      refine ⟨_, _, rfl, DL.strs_map _, by rw [List.length_map]; omega, ?_⟩
      rw [show (SK.dedup ((keepF size r hs t.2.2).map (rackOf hs))).length = racksN size r hs t.2.2 from rfl]
      infer_instance
      refine ifD (fun e => ?_) (fun e => ?_)
      · infer_instance
        refine h _ M' ?_ (hK0.trans hK)
        show false = List.all _ _
        refine (Bool.eq_false_iff.mpr fun z => ?_).symm
        have := of_decide_eq_true (List.all_eq_true.mp z t (List.mem_of_getElem? ht))
        omega
      · infer_instance
        refine hnx _ _ ⟨_, _, _, _, _, hK, rfl, fun s hs2 => ?_⟩
        rw [List.take_add_one, ht] at hs2
        rcases List.mem_append.mp hs2 with z | z
        · exact hno s z
        · have e9 : s = t := by simpa using z
          rw [e9]; omega
  · rintro i x M' hx ⟨s, rfl, es, hsl⟩ nx hnx
    refine ⟨rfl, ?_⟩
    rw [List.getElem?_map] at hx
    obtain ⟨o, ho, rfl⟩ := omap hx
    have hi := (List.getElem?_eq_some_iff.mp ho).1
    infer_instance
    refine ⟨s, .inr o.name, rfl, mset_same, by rw [sizeLine_eq]; omega, hnx _ ⟨_, by rw [mset_mset], ?_, ?_⟩⟩
    · rw [es, List.take_succ, ho]
      unfold bayL
      rw [List.map_append, merge_app]
      rfl
    · exact Nat.le_trans setK_len (by omega)
theorem kp_stands (C : Addr) : Keeps N_stands 2 (sd_stands C) (db_stands C) := by
  rintro ds M q ex hl ⟨size, r, hs, w, rfl, s1, hc, hr, h64, hw, h⟩
  show db_stands C _ [some (ringD C size r hs), some (wishD w), none, none, none, none] M
  unfold db_stands
  have hf := hc.few
  infer_instance
  refine ⟨size, r, hs, rfl, ?_⟩
  infer_instance
  refine ⟨w, rfl, hw, ?_⟩
  infer_instance
  cases w with
  | share x n =>
    rw [show wishD (.share x n) = .tup [.str "share", .str x, .int n] from rfl]
    infer_instance
    refine eq_str (by decide +kernel) (by decide +kernel) ?_
    rw [show decide (("share" : Str) = "racks") = false by decide +kernel]
    infer_instance
    refine eq_str (by decide +kernel) (by decide +kernel) ?_
    rw [show decide (("share" : Str) = "share") = true by decide +kernel]
    infer_instance
    refine ⟨_, fs_ring, size, r, hs, .str x, rfl, hf, .inl ⟨x, rfl, ?_⟩⟩
    infer_instance
    refine ifB (fun hb => ?_) (fun hb => ?_)
    · have hx := of_decide_eq_true hb
      infer_instance
      refine ⟨size, r, hs, x, rfl, s1, hc, hr, h64, hx, fun M' hK => ?_⟩
      infer_instance
      have h2 := h M' hK
      have e : stF size r hs (.share x n) = decide (keptN size r hs x ≤ n) := by
        show (decide (x ∈ hs.map (·.name)) && decide (x ∈ hs.map (·.name) → keptN size r hs x ≤ n)) = _
        rw [decide_eq_true hx, Bool.true_and]
        exact decide_eq_decide.mpr ⟨fun z => z hx, fun z _ => z⟩
      rw [e] at h2
      exact h2
    · have h2 := h M (Kept.refl M)
      have e : stF size r hs (.share x n) = false := by
        have hb2 : decide (x ∈ hs.map (·.name)) = false := hb
        show (decide (x ∈ hs.map (·.name)) && _) = _
        rw [hb2, Bool.false_and]
      rw [e] at h2
      exact h2
  | bears kind down left =>
    obtain ⟨hk, d0, d1, l0, l1⟩ := hw
    rw [show wishD (.bears kind down left) = .tup [.str "bears", .str kind, .int down, .int left] from rfl]
    infer_instance
    refine eq_str (by decide +kernel) (by decide +kernel) ?_
    rw [show decide (("bears" : Str) = "racks") = false by decide +kernel]
    infer_instance
    refine eq_str (by decide +kernel) (by decide +kernel) ?_
    rw [show decide (("bears" : Str) = "share") = false by decide +kernel]
    infer_instance
    exact ⟨size, r, hs, kind, down, left, rfl, s1, hc, hr, h64, hk, d0, d1, l0, l1, h⟩
  | racks m =>
    rw [show wishD (.racks m) = .tup [.str "racks", .int m] from rfl]
    infer_instance
    refine eq_str (by decide +kernel) (by decide +kernel) ?_
    rw [show decide (("racks" : Str) = "racks") = true by decide +kernel]
    infer_instance
    refine ⟨size, r, hs, m, rfl, s1, hc, hr, h64, fun d M' hd hK => ?_⟩
    infer_instance
    have h2 := h M' hK
    rw [← hd] at h2
    exact h2
theorem sh_bs {bs : List Bool} (h : bs.length ≤ 6) : showOk (.list (bs.map PyData.bool)) := (Sh.list (n := 20) (k := 0) (m := 6) (fun x hx => by
  obtain ⟨b, _, rfl⟩ := List.mem_map.mp hx
  exact Sh.bool _) (by rw [List.length_map]; exact h)).ok (by decide) (by decide)
theorem py_bs {M : Mem} (bs : List Bool) : pyOf M (.lst (bs.map D.bl)) = some (.list (bs.map PyData.bool)) := by
  show (toPys (bs.map D.bl)).map PyData.list = _
  have e : ∀ l : List Bool, toPys (l.map D.bl) = some (l.map PyData.bool) := by
    intro l
    induction l with
    | nil => rfl
    | cons b l ih =>
      show (match toPy (.bl b), toPys (l.map D.bl) with | some p, some ps => some (p :: ps) | _, _ => none) = _
      rw [ih]; rfl
  rw [e]; rfl
theorem eq_same {x : Str} {M : Mem} {q : QD} (w : q (.bl true) M) : rdEq (.str x) (.str x) M q := eq_strA (by rw [decide_eq_true rfl]; exact w)
theorem cnt_sum {size : Int} {r : Rule} {hs : List Host} {x : Str} : ∀ n : Nat, (((List.range n).filter fun p : Nat => decide (x ∈ keepF size r hs (p : Int))).length : Int) = sumTo (cntK size r hs x) n
  | 0 => rfl
  | n + 1 => by
    rw [List.range_succ, List.filter_append, List.length_append]
    show _ = sumTo (cntK size r hs x) n + cntK size r hs x (n : Nat)
    rw [← cnt_sum n]
    unfold cntK
    by_cases hb : x ∈ keepF size r hs (n : Int)
    · have e : [n].filter (fun p : Nat => decide (x ∈ keepF size r hs (p : Int))) = [n] := by simp [hb]
      rw [e, if_pos (decide_eq_true hb)]; simp
    · have e : [n].filter (fun p : Nat => decide (x ∈ keepF size r hs (p : Int))) = [] := by simp [hb]
      rw [e, if_neg (fun z => hb (of_decide_eq_true z))]; simp
theorem kp_w_shares_right (C : Addr) : Keeps N_w_shares_right 3 (sd_w_shares_right C) (db_w_shares_right C) := by
  rintro ds M q ex hl ⟨size, r, hs, rfl, s1, s100, hc, hr, h64, hpool, h⟩
  show db_w_shares_right C _ [some (ringD C size r hs), some (crewD hs), some (tableD size r hs), none, none, none, none] M
  unfold db_w_shares_right
  have hf := hc.few
  infer_instance
  refine for_map hostD (xs := hs) (fun i env M' => ∃ w3 w4 w5 w6 : Option D, Kept M M' ∧ env = [some (ringD C size r hs), some (crewD hs), some (tableD size r hs), w3, w4, w5, w6]) ?_ ?_ _ _ ⟨_, _, _, _, Kept.refl M, rfl⟩
  · rintro env M' ⟨w3, w4, w5, w6, hK, rfl⟩
    refine ⟨rfl, ?_⟩
    infer_instance
    refine ⟨size, r, hs, .share "zz" 0, rfl, s1, hc, hr, h64, ⟨by decide +kernel, by decide⟩, fun M1 hK1 => ?_⟩
    infer_instance
    refine pow_int (by refine ⟨?_, ?_, ?_⟩ <;> decide) ?_
    infer_instance
    refine ⟨size, r, hs, .share "nobody" (10 ^ 30), rfl, s1, hc, hr, h64, ⟨by decide +kernel, by decide⟩, fun M2 hK2 => ?_⟩
    have hnot : ∀ (x : Str) (n : Int), (x = "zz" ∨ x = "nobody") → stF size r hs (.share x n) = false := fun x n hx => by
      have hx2 : x ∉ hs.map (·.name) := fun z => by
        obtain ⟨o, ho, e⟩ := List.mem_map.mp z
        obtain ⟨_, n1, n2⟩ := pool_ok _ (hpool o ho)
        rcases hx with e2 | e2
        · exact n1 (e.trans e2)
        · exact n2 (e.trans e2)
      show (decide (x ∈ hs.map (·.name)) && _) = _
      rw [decide_eq_false hx2, Bool.false_and]
    rw [hnot _ _ (.inl rfl), hnot _ _ (.inr rfl)]
    infer_instance
    refine ⟨_, .list [.bool false, .bool false], rfl, py_bs [false, false], sh_bs (bs := [false, false]) (by decide), ?_⟩
    infer_instance
    refine ⟨_, .list [.bool false, .bool false], rfl, py_bs [false, false], sh_bs (bs := [false, false]) (by decide), ?_⟩
    refine eq_same ?_
    exact h _ ((hK.trans hK1).trans hK2)
  · rintro i o env M' ho ⟨w3, w4, w5, w6, hK, rfl⟩ nx hnx
    refine ⟨rfl, ?_⟩
    have hom := List.mem_of_getElem? ho
    have et : tableD size r hs = .lst ((List.range size.toNat).map fun p : Nat => strsL (keepF size r hs (p : Int))) := rfl
    infer_instance
    rw [et]
    infer_instance
    intro c hcn
    refine lc_map (fun p : Nat => strsL (keepF size r hs (p : Int))) (fun p : Nat => decide (o.name ∈ keepF size r hs (p : Int))) (fun p : Nat => strsL (keepF size r hs (p : Int))) hcn (by rw [List.length_range, sizeLine_eq]; omega) (fun _ => rfl) (fun p hp acc hz nx2 hyes hno => ?_) ?_
    · infer_instance
      refine in_str (xs := keepF size r hs (p : Int)) rfl ?_
      infer_instance
      refine ifB (fun hb => ?_) (fun hb => ?_)
      · infer_instance
        exact acc_put hz (hyes hb)
      · exact hno hb
    infer_instance
    rw [List.length_map, cnt_sum]
    have hnn : (size.toNat : Int) = size := Int.toNat_of_nonneg (by omega)
    rw [← kept_all s1 hc]
    have hnm : nameB o.name = true := (pool_ok _ (hpool o hom)).1
    have hk0 : 0 ≤ keptN size r hs o.name := by rw [kept_all s1 hc, ← cnt_sum]; exact Int.natCast_nonneg _
    have hst : ∀ n : Int, stF size r hs (.share o.name n) = decide (keptN size r hs o.name ≤ n) := fun n => by
      have hx : o.name ∈ hs.map (·.name) := List.mem_map_of_mem hom
      show (decide (o.name ∈ hs.map (·.name)) && decide (o.name ∈ hs.map (·.name) → keptN size r hs o.name ≤ n)) = _
      rw [decide_eq_true hx, Bool.true_and]
      exact decide_eq_decide.mpr ⟨fun z => z hx, fun z _ => z⟩
    infer_instance
    refine ⟨size, r, hs, .share o.name (keptN size r hs o.name), rfl, s1, hc, hr, h64, ⟨hnm, hk0⟩, fun M1 hK1 => ?_⟩
    rw [hst, decide_eq_true (Int.le_refl _)]
    infer_instance
    refine ⟨size, r, hs, .share o.name 0, rfl, s1, hc, hr, h64, ⟨hnm, by decide⟩, fun M2 hK2 => ?_⟩
    rw [hst]
    infer_instance
    have e0 : decide (keptN size r hs o.name ≤ 0) = decide (keptN size r hs o.name = 0) := decide_eq_decide.mpr (by omega)
    rw [e0]
    refine ⟨_, .list [.bool true, .bool (decide (keptN size r hs o.name = 0))], rfl, py_bs [true, decide (keptN size r hs o.name = 0)], sh_bs (bs := [true, decide (keptN size r hs o.name = 0)]) (by simp), ?_⟩
    infer_instance
    refine ⟨_, .list [.bool true, .bool (decide (keptN size r hs o.name = 0))], rfl, py_bs [true, decide (keptN size r hs o.name = 0)], sh_bs (bs := [true, decide (keptN size r hs o.name = 0)]) (by simp), ?_⟩
    refine ne_same ?_
    infer_instance
    refine ifD (fun hp => ?_) (fun hp => ?_)
    · infer_instance
      refine ⟨size, r, hs, .share o.name (keptN size r hs o.name - 1), rfl, s1, hc, hr, h64, ⟨hnm, by omega⟩, fun M3 hK3 => ?_⟩
      have e5 : decide (keptN size r hs o.name ≤ keptN size r hs o.name - 1) = false := decide_eq_false (by omega)
      rw [hst, e5]
      infer_instance
      refine ⟨false, false, rfl, rfl, ?_⟩
      infer_instance
      exact hnx _ _ ⟨_, _, _, _, ((hK.trans hK1).trans hK2).trans hK3, rfl⟩
    · infer_instance
      exact hnx _ _ ⟨_, _, _, _, (hK.trans hK1).trans hK2, rfl⟩
theorem cells_racks {size : Int} {r : Rule} {hs : List Host} {m v : Int} (s1 : 1 ≤ size) (hc : CrewOk size hs) (hv : ∃ p : Nat, p < size.toNat ∧ v = (racksN size r hs (p : Int) : Int)) (hle : ∀ p : Nat, p < size.toNat → v ≤ (racksN size r hs (p : Int) : Int)) : stF size r hs (.racks m) = decide (v ≥ m) := by
  show (partF size (allM hs)).all (fun t => decide (m ≤ (racksN size r hs t.2.2 : Int))) = _
  rw [Bool.eq_iff_iff, List.all_eq_true, decide_eq_true_eq]
  constructor
  · intro h
    obtain ⟨p, hp, rfl⟩ := hv
    obtain ⟨t, ht, _, e⟩ := cell_keep (r := r) (p := (p : Int)) s1 hc (by omega) (by omega)
    have h1 := of_decide_eq_true (h t ht)
    have e2 : racksN size r hs t.2.2 = racksN size r hs (p : Int) := by unfold racksN; rw [e]
    omega
  · intro h t ht
    have hm : t.2.2 ∈ allM hs := by
      rw [← partF_edge (size := size) (ms := allM hs)]
      exact List.mem_map.mpr ⟨t, ht, rfl⟩
    have hi := allM_in hc hm
    have h2 := hle t.2.2.toNat (by omega)
    rw [Int.toNat_of_nonneg hi.1] at h2
    exact decide_eq_true (by omega)
theorem kp_w_racks_right (C : Addr) : Keeps N_w_racks_right 3 (sd_w_racks_right C) (db_w_racks_right C) := by
  rintro ds M q ex hl ⟨size, r, hs, rfl, s1, s100, hc, hr, h64, h⟩
  show db_w_racks_right C _ [some (ringD C size r hs), some (crewD hs), some (tableD size r hs), none, none, none, none, none] M
  unfold db_w_racks_right
  have hf := hc.few
  have et : tableD size r hs = .lst ((List.range size.toNat).map fun p : Nat => strsL (keepF size r hs (p : Int))) := rfl
  rw [et]
  infer_instance
  refine ⟨size, hs, "racks", rfl, .inr rfl, hc, fun c ws M1 hcn hK1 hC _ _ => ?_⟩
  infer_instance
  have hho : ∀ x, homeOf hs "racks" x = rackOf hs x := fun x => if_neg (by decide)
  intro c2 hc2
  have hcc : c ≠ c2 := fun e => by rw [← e, hC] at hc2; cases hc2
  refine lc_all (fun p : Nat => strsL (keepF size r hs (p : Int))) (fun p : Nat => D.int (racksN size r hs (p : Int) : Nat)) hc2 (by rw [List.length_range, sizeLine_eq]; omega) (fun _ => rfl) (fun p hp acc hz nx hnx => ?_) ?_
  · have hkl := keepF_len (size := size) (p := (p : Int)) (hs := hs) hr
    infer_instance
    intro c3 hc3
    have hc23 : c2 ≠ c3 := fun e => by rw [← e, mset_same] at hc3; cases hc3
    have hc13 : c ≠ c3 := fun e => by rw [← e, mset_ne hcc, hC] at hc3; cases hc3
    refine lc_all D.str (fun x => .str (rackOf hs x)) hc3 (by rw [sizeLine_eq]; omega) (fun _ => rfl) (fun x hx acc2 hz2 nx2 hnx2 => ?_) ?_
    · infer_instance
      refine ⟨c, _, .inr x, _, rfl, by rw [mset_ne hc13, mset_ne hcc]; exact hC, rfl, home_at hc (keepF_in hc hr x hx), ?_⟩
      rw [hho]
      infer_instance
      exact acc_put hz2 hnx2
    have e0 : ((keepF size r hs (p : Int)).map fun x => D.str (rackOf hs x)) = ((keepF size r hs (p : Int)).map (rackOf hs)).map D.str := by rw [List.map_map]; rfl
    rw [e0]
    refine ⟨_, _, rfl, DL.strs_map _, by rw [List.length_map]; omega, ?_⟩
    rw [show (SK.dedup ((keepF size r hs (p : Int)).map (rackOf hs))).length = racksN size r hs (p : Int) from rfl]
    exact acc_put hz hnx
  have e1 : ((List.range size.toNat).map fun p : Nat => D.int (racksN size r hs (p : Int) : Nat)) = ((List.range size.toNat).map fun p : Nat => (racksN size r hs (p : Int) : Int)).map D.int := by rw [List.map_map]; rfl
  rw [e1]
  have hmem : ∀ v : Int, v ∈ ((List.range size.toNat).map fun p : Nat => (racksN size r hs (p : Int) : Int)) ↔ ∃ p : Nat, p < size.toNat ∧ v = (racksN size r hs (p : Int) : Int) := fun v => by
    rw [List.mem_map]
    constructor
    · rintro ⟨p, hp, rfl⟩; exact ⟨p, List.mem_range.mp hp, rfl⟩
    · rintro ⟨p, hp, rfl⟩; exact ⟨p, List.mem_range.mpr hp, rfl⟩
  infer_instance
  refine ⟨_, _, _, rfl, rfl, DL.ints_map _, by rw [List.length_map, List.length_range]; omega, fun v hv1 hv2 => ?_⟩
  infer_instance
  have key : ∀ m : Int, stF size r hs (.racks m) = decide (v ≥ m) := fun m => cells_racks s1 hc ((hmem v).mp hv1) fun p hp => hv2 _ ((hmem _).mpr ⟨p, hp, rfl⟩)
  intro c4 hc4
  have er : rngD 1 5 = (List.range 5).map fun i : Nat => D.int (1 + (i : Int)) := rfl
  rw [show ((6 : Int) - 1).toNat = 5 from rfl, er]
  refine lc_kept (fun i : Nat => D.int (1 + (i : Int))) (fun i : Nat => D.bl (decide (v ≥ 1 + (i : Int)))) hc4 (by rw [List.length_range, sizeLine_eq]; omega) (fun _ _ => trivial) (fun i hi M2 hK2 K K2 hk => ?_) fun M3 hK3 => ?_
  · have hi5 := List.mem_range.mp hi
    infer_instance
    refine ⟨size, r, hs, .racks (1 + (i : Int)), rfl, s1, hc, hr, h64, ⟨by omega, by omega⟩, fun M4 hK4 => ?_⟩
    rw [key]
    exact hk M4 hK4
  have eb : ((List.range 5).map fun i : Nat => D.bl (decide (v ≥ 1 + (i : Int)))) = ((List.range 5).map fun i : Nat => decide (v ≥ 1 + (i : Int))).map D.bl := by rw [List.map_map]; rfl
  rw [eb]
  refine ⟨_, _, rfl, py_bs _, sh_bs (by rw [List.length_map, List.length_range]; omega), ?_⟩
  infer_instance
  intro c5 hc5
  rw [show ((6 : Int) - 1).toNat = 5 from rfl, er]
  refine lc_all (fun i : Nat => D.int (1 + (i : Int))) (fun i : Nat => D.bl (decide (v ≥ 1 + (i : Int)))) hc5 (by rw [List.length_range, sizeLine_eq]; omega) (fun _ => trivial) (fun i hi acc hz nx hnx => ?_) ?_
  · infer_instance
    exact acc_put hz hnx
  rw [eb]
  refine ⟨_, _, rfl, py_bs _, sh_bs (by rw [List.length_map, List.length_range]; omega), ?_⟩
  refine eq_same ?_
  exact h _ (hK1.trans hK3)
theorem bears_key {size : Int} {r : Rule} {hs : List Host} {kind : Str} {n : Nat} {v : Int} (s1 : 1 ≤ size) (hc : CrewOk size hs) (hv : ∀ left : Int, left ≤ v ↔ ∀ p, 0 ≤ p → p < size → ∀ L : List Str, (L.length : Int) ≤ n → left ≤ (upN (homesF size r hs kind p) L : Int)) (left : Int) : stF size r hs (.bears kind n left) = decide (v ≥ left) := by
  show (breachF size r hs kind n left).isNone = _
  rw [Bool.eq_iff_iff, decide_eq_true_eq, bears_iff s1 hc (Int.natCast_nonneg n)]
  exact (hv left).symm
theorem kp_w_right (C : Addr) : Keeps N_w_right 1 (sd_w_right C) (db_w_right C) := by
  rintro ds M q ex hl ⟨k, rfl, hK, h⟩
  show db_w_right C _ [some (.cel k), none, none, none, none, none, none, none, none, none, none, none] M
  unfold db_w_right
  infer_instance
  refine ⟨k, 0, rfl, hK, by omega, fun size r hs nl c M1 z12 z20 hr hc h4 hpl hB1 hK1 => ?_⟩
  have few : (crewM hs).length < 64 := by
    have h3 := sum_le (l := hs) (f := fun o : Host => o.marks.length) (b := 2) fun o ho => (hpl o ho).2
    unfold crewM
    rw [List.length_flatMap]
    omega
  have s1 : 1 ≤ size := by omega
  infer_instance
  refine ⟨size, r, hs, rfl, s1, by omega, hr, hc, fun M2 hK2 => ?_⟩
  infer_instance
  refine ⟨size, r, hs, rfl, by omega, by omega, hc, hr, fun M3 hK3 => ?_⟩
  infer_instance
  refine ⟨size, r, hs, rfl, s1, by omega, hc, hr, few, fun o ho => (hpl o ho).1, fun M4 hK4 => ?_⟩
  infer_instance
  refine ⟨size, r, hs, rfl, s1, by omega, hc, hr, few, fun M5 hK5 => ?_⟩
  infer_instance
  have hB5 : KeptB k M M5 := hB1.trans (((hK2.trans hK3).trans (hK4.trans hK5)).b)
  have hKg5 : Kg M5 k 2000 := kg_kept (kg_le hK1 (by omega)) ((hK2.trans hK3).trans (hK4.trans hK5))
  refine for_lst (fun i env M' => ∃ w7 w8 w9 w10 w11 : Option D, KeptB k M5 M' ∧ Kg M' k (2000 + i) ∧ env = [some (.cel k), some (rulesT size r), some (crewD hs), some (strsL nl), some (.cel c), some (ringD C size r hs), some (tableD size r hs), w7, w8, w9, w10, w11]) ?_ ?_ _ _ ⟨_, _, _, _, _, KeptB.refl _, kg_le hKg5 (by omega), rfl⟩
  · rintro env M' ⟨w7, w8, w9, w10, w11, hB', hK', rfl⟩
    refine ⟨rfl, ?_⟩
    infer_instance
    exact h M' (hB5.trans hB')
  · rintro i x env M' hx ⟨w7, w8, w9, w10, w11, hB', hK', rfl⟩ nx hnx
    refine ⟨rfl, ?_⟩
    have hi := (List.getElem?_eq_some_iff.mp hx).1
    have hi2 : i < 2 := hi
    obtain ⟨kind, hk, rfl⟩ : ∃ kind : Str, (kind = "hosts" ∨ kind = "racks") ∧ x = .str kind := by
      have hm := List.mem_of_getElem? hx
      simp only [List.mem_cons, List.not_mem_nil, or_false] at hm
      rcases hm with rfl | rfl
      · exact ⟨_, .inl rfl, rfl⟩
      · exact ⟨_, .inr rfl, rfl⟩
    infer_instance
    refine ⟨k, 10, _, rfl, by omega, by omega, hK', by omega, fun v M6 v0 v1 hB6 hK6 => ?_⟩
    infer_instance
    refine for_lst (fun j env M'' => ∃ w8 w9 w10 w11 : Option D, Kept M6 M'' ∧ env = [some (.cel k), some (rulesT size r), some (crewD hs), some (strsL nl), some (.cel c), some (ringD C size r hs), some (tableD size r hs), some (.str kind), w8, w9, w10, w11]) ?_ ?_ _ _ ⟨_, _, _, _, Kept.refl _, rfl⟩
    · rintro env M'' ⟨w8, w9, w10, w11, hK'', rfl⟩
      refine ⟨rfl, ?_⟩
      exact hnx _ _ ⟨_, _, _, _, _, (hB'.trans hB6).trans hK''.b, kg_le (kg_kept hK6 hK'') (by omega), rfl⟩
    · rintro j y env M'' hy ⟨w8, w9, w10, w11, hK'', rfl⟩ nx2 hnx2
      refine ⟨rfl, ?_⟩
      obtain ⟨n, hn, rfl⟩ : ∃ n : Nat, n ≤ 12 ∧ y = .int n := by
        have hm := List.mem_of_getElem? hy
        simp only [List.mem_cons, List.not_mem_nil, or_false] at hm
        rcases hm with rfl | rfl | rfl | rfl | rfl
        · exact ⟨0, by omega, rfl⟩
        · exact ⟨1, by omega, rfl⟩
        · exact ⟨2, by omega, rfl⟩
        · exact ⟨(3 + v).toNat, by omega, by rw [Int.toNat_of_nonneg (by omega)]⟩
        · exact ⟨12, by omega, rfl⟩
      infer_instance
      refine ⟨size, r, hs, kind, n, rfl, hk, s1, by omega, hc, hr, by omega, fun u M7 hu hK7 => ?_⟩
      have key := bears_key (r := r) s1 hc hu
      infer_instance
      intro c4 hc4
      have er : rngD 0 6 = (List.range 6).map fun i : Nat => D.int (0 + (i : Int)) := rfl
      rw [show (6 : Int).toNat = 6 from rfl, er]
      refine lc_kept (fun i : Nat => D.int (0 + (i : Int))) (fun i : Nat => D.bl (decide (u ≥ 0 + (i : Int)))) hc4 (by rw [List.length_range, sizeLine_eq]; omega) (fun _ _ => trivial) (fun i hi M8 hK8 K K2 hk2 => ?_) fun M9 hK9 => ?_
      · have hi5 := List.mem_range.mp hi
        infer_instance
        refine ⟨size, r, hs, .bears kind n (0 + (i : Int)), rfl, s1, hc, hr, few, ⟨hk, by omega, by omega, by omega, by omega⟩, fun M10 hK10 => ?_⟩
        rw [key]
        exact hk2 M10 hK10
      have eb : ((List.range 6).map fun i : Nat => D.bl (decide (u ≥ 0 + (i : Int)))) = ((List.range 6).map fun i : Nat => decide (u ≥ 0 + (i : Int))).map D.bl := by rw [List.map_map]; rfl
      rw [eb]
      infer_instance
      refine ⟨_, _, rfl, py_bs _, sh_bs (by rw [List.length_map, List.length_range]; omega), ?_⟩
      infer_instance
      intro c5 hc5
      rw [show (6 : Int).toNat = 6 from rfl, er]
      refine lc_all (fun i : Nat => D.int (0 + (i : Int))) (fun i : Nat => D.bl (decide (u ≥ 0 + (i : Int)))) hc5 (by rw [List.length_range, sizeLine_eq]; omega) (fun _ => trivial) (fun i hi acc hz nx hnx => ?_) ?_
      · infer_instance
        exact acc_put hz hnx
      rw [eb]
      refine ⟨_, _, rfl, py_bs _, sh_bs (by rw [List.length_map, List.length_range]; omega), ?_⟩
      refine ne_same ?_
      infer_instance
      exact hnx2 _ _ ⟨_, _, _, _, (hK''.trans hK7).trans hK9, rfl⟩
theorem kp_law (C : Addr) : Keeps N_law 1 (sd_law C) (db_law C) := by
  rintro ds M q ex hl ⟨ns, rfl, h63, hb, h⟩
  show db_law C _ [some (.lsf (ns.map D.int)), none] M
  unfold db_law
  ac_rfl
  refine len_seq (xs := ns.map D.int) rfl ?_
  have hml : (ns.map D.int).length = ns.length := List.length_map _
  ac_rfl
  refine min_int fun m m1 m2 _ => ?_
  ac_rfl
  refine max_int fun n n1 n2 n3 => ?_
  ac_rfl
  intro c hcn
  have hrl : ∀ n, (rngD 0 n).length = n := fun n => by unfold rngD; rw [List.length_map, List.length_range]
  refine lc_lst (fun i M' => ∃ acc : List D, M' c = some (.ls acc) ∧ (∀ x ∈ acc, x = .bl true) ∧ acc.length ≤ i) ?_ ?_ _ ⟨[], mset_same, fun x hx => by simp at hx, Nat.le_refl _⟩
  · rintro M' ⟨acc, hC, ha, _⟩
    refine ⟨trivial, _, hC, ?_⟩
    ac_rfl
    exact all_true ha (h _)
  · rintro i x M' hx ⟨acc, hC, ha, hlen⟩ nx hnx
    refine ⟨trivial, ?_⟩
    have hi := (List.getElem?_eq_some_iff.mp hx).1
    rw [hrl] at hi
    obtain rfl : x = .int (0 + (i : Nat)) := by
      unfold rngD at hx
      rw [List.getElem?_map, List.getElem?_range hi] at hx
      exact (Option.some.inj hx).symm
    have e0 : (0 : Int) + (i : Nat) = (i : Nat) := by omega
    ac_rfl
    refine ⟨ns, i, by rw [e0], by omega, h63, hb, fun k M5 hk hK5 hKg => ?_⟩
    ac_rfl
    refine ⟨k, rfl, hKg, fun M6 hB6 => ?_⟩
    have hck : c ≠ k := fun e => by rw [e] at hC; rw [hC] at hk; cases hk
    refine ⟨_, hB6 c _ (hK5 c _ hC) hck, by rw [sizeLine_eq]; omega, hnx _ ⟨_, mset_same, fun x hx => ?_, by rw [List.length_append, List.length_singleton]; omega⟩⟩
    rcases List.mem_append.mp hx with hx | hx
    · exact ha x hx
    · exact List.mem_singleton.mp hx
end L47
set_option maxRecDepth 100000
set_option maxHeartbeats 4000000
namespace L47
open PySem PySem.Spec PyProof.Rows L2 DL R
theorem fnIn_of {K : PySem.W.Frag} {x qual : Str} {params : Arguments} {body : List Stmt} {scope : Scope} {dvs : List V} {kws : List (Str × V)} {f : Addr} {fd : FuncData} (F : FunD K x qual params body scope dvs kws f fd) : PySem.W.fnIn K f = true := by
  obtain ⟨oc, od, dV, kV, doc, pm, an, cdv, ct, osl, rfl, lk, _⟩ := F.ex
  unfold PySem.W.fnIn
  rw [lk]
section
variable {w : World} {K : PySem.W.Frag} {h : Heap} {mg : Str → Option Value}
theorem tx (KX : K.In h) (G : h.Ns mainGlobals mg) (c : DLH.SaysR faA fnA exA K) : Tx K mg (He.ga K "Ring") := by
  have e : (He.tupB K "SPREADS" [.str "hosts", .str "racks"] && (He.tupB K "PENDINGS" [.str "plain", .str "with"] && (DLH.propB K "Ring" "hosts" && (DLH.propB K "Ring" "factor" && (DLH.propB K "Ring" "spread" && (DLH.propB K "Ring" "points" && (DLH.propB K "Ring" "names" && (He.tupB K "KINDS" [.str "hosts", .str "racks"] && (DLH.rowB K (He.ga K "RING_WISHES") [.adr (DLH.rowAt "RING_WISHES" 0), .adr (DLH.rowAt "RING_WISHES" 1), .adr (DLH.rowAt "RING_WISHES" 2)] && (DLH.rowB K (DLH.rowAt "RING_WISHES" 0 K) [.str "share", .int 3] && (DLH.rowB K (DLH.rowAt "RING_WISHES" 1 K) [.str "bears", .int 4] && (DLH.rowB K (DLH.rowAt "RING_WISHES" 2 K) [.str "racks", .int 2] && (DLH.isB K "Ring"))))))))))))) = true := c.more
  obtain ⟨e1, e⟩ := He.ba e
  obtain ⟨e2, e⟩ := He.ba e
  exact {
    abs := He.free_ok KX G (c.fact 65 (f := .free "abs") rfl)
    all := He.free_ok KX G (c.fact 66 (f := .free "all") rfl)
    any := He.free_ok KX G (c.fact 67 (f := .free "any") rfl)
    bool := He.free_ok KX G (c.fact 68 (f := .free "bool") rfl)
    dict := He.free_ok KX G (c.fact 69 (f := .free "dict") rfl)
    divmod := He.free_ok KX G (c.fact 70 (f := .free "divmod") rfl)
    enumerate := He.free_ok KX G (c.fact 71 (f := .free "enumerate") rfl)
    int := He.free_ok KX G (c.fact 72 (f := .free "int") rfl)
    isinstance := He.free_ok KX G (c.fact 73 (f := .free "isinstance") rfl)
    len := He.free_ok KX G (c.fact 74 (f := .free "len") rfl)
    list := He.free_ok KX G (c.fact 75 (f := .free "list") rfl)
    max := He.free_ok KX G (c.fact 76 (f := .free "max") rfl)
    min := He.free_ok KX G (c.fact 77 (f := .free "min") rfl)
    range := He.free_ok KX G (c.fact 78 (f := .free "range") rfl)
    repr := He.free_ok KX G (c.fact 79 (f := .free "repr") rfl)
    reversed := He.free_ok KX G (c.fact 80 (f := .free "reversed") rfl)
    set := He.free_ok KX G (c.fact 81 (f := .free "set") rfl)
    sorted := He.free_ok KX G (c.fact 82 (f := .free "sorted") rfl)
    str := He.free_ok KX G (c.fact 83 (f := .free "str") rfl)
    sum := He.free_ok KX G (c.fact 84 (f := .free "sum") rfl)
    tuple := He.free_ok KX G (c.fact 85 (f := .free "tuple") rfl)
    zip := He.free_ok KX G (c.fact 86 (f := .free "zip") rfl)
    c_DIGITS := He.str_ok KX G (c.fact 87 (f := .str "DIGITS" "0123456789") rfl)
    c_KINDS := ⟨_, He.glo_ok KX G (c.fact 95 (f := .glo "KINDS") rfl), He.tupB_ok (by
      have e : (He.tupB K "SPREADS" [.str "hosts", .str "racks"] && (He.tupB K "PENDINGS" [.str "plain", .str "with"] && (DLH.propB K "Ring" "hosts" && (DLH.propB K "Ring" "factor" && (DLH.propB K "Ring" "spread" && (DLH.propB K "Ring" "points" && (DLH.propB K "Ring" "names" && (He.tupB K "KINDS" [.str "hosts", .str "racks"] && (DLH.rowB K (He.ga K "RING_WISHES") [.adr (DLH.rowAt "RING_WISHES" 0), .adr (DLH.rowAt "RING_WISHES" 1), .adr (DLH.rowAt "RING_WISHES" 2)] && (DLH.rowB K (DLH.rowAt "RING_WISHES" 0 K) [.str "share", .int 3] && (DLH.rowB K (DLH.rowAt "RING_WISHES" 1 K) [.str "bears", .int 4] && (DLH.rowB K (DLH.rowAt "RING_WISHES" 2 K) [.str "racks", .int 2] && (DLH.isB K "Ring"))))))))))))) = true := c.more
      obtain ⟨_, e⟩ := He.ba e
      obtain ⟨_, e⟩ := He.ba e
      obtain ⟨_, e⟩ := He.ba e
      obtain ⟨_, e⟩ := He.ba e
      obtain ⟨_, e⟩ := He.ba e
      obtain ⟨_, e⟩ := He.ba e
      obtain ⟨_, e⟩ := He.ba e
      exact (He.ba e).1)⟩
    c_LETTERS := He.str_ok KX G (c.fact 88 (f := .str "LETTERS" "abcdefghijklmnopqrstuvwxyz") rfl)
    c_MOST_FACTOR := He.int_ok KX G (c.fact 89 (f := .int "MOST_FACTOR" 5) rfl)
    c_MOST_HOSTS := He.int_ok KX G (c.fact 90 (f := .int "MOST_HOSTS" 12) rfl)
    c_MOST_MARKS := He.int_ok KX G (c.fact 91 (f := .int "MOST_MARKS" 16) rfl)
    c_MOST_POINTS := He.int_ok KX G (c.fact 92 (f := .int "MOST_POINTS" 1000000000000000000) rfl)
    c_MOST_SIGNS := He.int_ok KX G (c.fact 93 (f := .int "MOST_SIGNS" 8) rfl)
    c_PENDINGS := ⟨_, He.glo_ok KX G (c.fact 56 (f := .glo "PENDINGS") rfl), He.tupB_ok e2⟩
    c_RING_WISHES := ⟨_, He.glo_ok KX G (c.fact 94 (f := .glo "RING_WISHES") rfl), fun H => .tup (DLH.rowB_ok (by
      have e : (He.tupB K "SPREADS" [.str "hosts", .str "racks"] && (He.tupB K "PENDINGS" [.str "plain", .str "with"] && (DLH.propB K "Ring" "hosts" && (DLH.propB K "Ring" "factor" && (DLH.propB K "Ring" "spread" && (DLH.propB K "Ring" "points" && (DLH.propB K "Ring" "names" && (He.tupB K "KINDS" [.str "hosts", .str "racks"] && (DLH.rowB K (He.ga K "RING_WISHES") [.adr (DLH.rowAt "RING_WISHES" 0), .adr (DLH.rowAt "RING_WISHES" 1), .adr (DLH.rowAt "RING_WISHES" 2)] && (DLH.rowB K (DLH.rowAt "RING_WISHES" 0 K) [.str "share", .int 3] && (DLH.rowB K (DLH.rowAt "RING_WISHES" 1 K) [.str "bears", .int 4] && (DLH.rowB K (DLH.rowAt "RING_WISHES" 2 K) [.str "racks", .int 2] && (DLH.isB K "Ring"))))))))))))) = true := c.more
      obtain ⟨_, e⟩ := He.ba e
      obtain ⟨_, e⟩ := He.ba e
      obtain ⟨_, e⟩ := He.ba e
      obtain ⟨_, e⟩ := He.ba e
      obtain ⟨_, e⟩ := He.ba e
      obtain ⟨_, e⟩ := He.ba e
      obtain ⟨_, e⟩ := He.ba e
      obtain ⟨_, e⟩ := He.ba e
      exact (He.ba e).1) H) (.cons (.tup (DLH.rowB_ok (by
      have e : (He.tupB K "SPREADS" [.str "hosts", .str "racks"] && (He.tupB K "PENDINGS" [.str "plain", .str "with"] && (DLH.propB K "Ring" "hosts" && (DLH.propB K "Ring" "factor" && (DLH.propB K "Ring" "spread" && (DLH.propB K "Ring" "points" && (DLH.propB K "Ring" "names" && (He.tupB K "KINDS" [.str "hosts", .str "racks"] && (DLH.rowB K (He.ga K "RING_WISHES") [.adr (DLH.rowAt "RING_WISHES" 0), .adr (DLH.rowAt "RING_WISHES" 1), .adr (DLH.rowAt "RING_WISHES" 2)] && (DLH.rowB K (DLH.rowAt "RING_WISHES" 0 K) [.str "share", .int 3] && (DLH.rowB K (DLH.rowAt "RING_WISHES" 1 K) [.str "bears", .int 4] && (DLH.rowB K (DLH.rowAt "RING_WISHES" 2 K) [.str "racks", .int 2] && (DLH.isB K "Ring"))))))))))))) = true := c.more
      obtain ⟨_, e⟩ := He.ba e
      obtain ⟨_, e⟩ := He.ba e
      obtain ⟨_, e⟩ := He.ba e
      obtain ⟨_, e⟩ := He.ba e
      obtain ⟨_, e⟩ := He.ba e
      obtain ⟨_, e⟩ := He.ba e
      obtain ⟨_, e⟩ := He.ba e
      obtain ⟨_, e⟩ := He.ba e
      obtain ⟨_, e⟩ := He.ba e
      exact (He.ba e).1) H) (.cons (.str "share") (.cons (.int 3) .nil))) (.cons (.tup (DLH.rowB_ok (by
      have e : (He.tupB K "SPREADS" [.str "hosts", .str "racks"] && (He.tupB K "PENDINGS" [.str "plain", .str "with"] && (DLH.propB K "Ring" "hosts" && (DLH.propB K "Ring" "factor" && (DLH.propB K "Ring" "spread" && (DLH.propB K "Ring" "points" && (DLH.propB K "Ring" "names" && (He.tupB K "KINDS" [.str "hosts", .str "racks"] && (DLH.rowB K (He.ga K "RING_WISHES") [.adr (DLH.rowAt "RING_WISHES" 0), .adr (DLH.rowAt "RING_WISHES" 1), .adr (DLH.rowAt "RING_WISHES" 2)] && (DLH.rowB K (DLH.rowAt "RING_WISHES" 0 K) [.str "share", .int 3] && (DLH.rowB K (DLH.rowAt "RING_WISHES" 1 K) [.str "bears", .int 4] && (DLH.rowB K (DLH.rowAt "RING_WISHES" 2 K) [.str "racks", .int 2] && (DLH.isB K "Ring"))))))))))))) = true := c.more
      obtain ⟨_, e⟩ := He.ba e
      obtain ⟨_, e⟩ := He.ba e
      obtain ⟨_, e⟩ := He.ba e
      obtain ⟨_, e⟩ := He.ba e
      obtain ⟨_, e⟩ := He.ba e
      obtain ⟨_, e⟩ := He.ba e
      obtain ⟨_, e⟩ := He.ba e
      obtain ⟨_, e⟩ := He.ba e
      obtain ⟨_, e⟩ := He.ba e
      obtain ⟨_, e⟩ := He.ba e
      exact (He.ba e).1) H) (.cons (.str "bears") (.cons (.int 4) .nil))) (.cons (.tup (DLH.rowB_ok (by
      have e : (He.tupB K "SPREADS" [.str "hosts", .str "racks"] && (He.tupB K "PENDINGS" [.str "plain", .str "with"] && (DLH.propB K "Ring" "hosts" && (DLH.propB K "Ring" "factor" && (DLH.propB K "Ring" "spread" && (DLH.propB K "Ring" "points" && (DLH.propB K "Ring" "names" && (He.tupB K "KINDS" [.str "hosts", .str "racks"] && (DLH.rowB K (He.ga K "RING_WISHES") [.adr (DLH.rowAt "RING_WISHES" 0), .adr (DLH.rowAt "RING_WISHES" 1), .adr (DLH.rowAt "RING_WISHES" 2)] && (DLH.rowB K (DLH.rowAt "RING_WISHES" 0 K) [.str "share", .int 3] && (DLH.rowB K (DLH.rowAt "RING_WISHES" 1 K) [.str "bears", .int 4] && (DLH.rowB K (DLH.rowAt "RING_WISHES" 2 K) [.str "racks", .int 2] && (DLH.isB K "Ring"))))))))))))) = true := c.more
      obtain ⟨_, e⟩ := He.ba e
      obtain ⟨_, e⟩ := He.ba e
      obtain ⟨_, e⟩ := He.ba e
      obtain ⟨_, e⟩ := He.ba e
      obtain ⟨_, e⟩ := He.ba e
      obtain ⟨_, e⟩ := He.ba e
      obtain ⟨_, e⟩ := He.ba e
      obtain ⟨_, e⟩ := He.ba e
      obtain ⟨_, e⟩ := He.ba e
      obtain ⟨_, e⟩ := He.ba e
      obtain ⟨_, e⟩ := He.ba e
      exact (He.ba e).1) H) (.cons (.str "racks") (.cons (.int 2) .nil))) .nil)))⟩
    c_SPREADS := ⟨_, He.glo_ok KX G (c.fact 55 (f := .glo "SPREADS") rfl), He.tupB_ok e1⟩
    isC := DLH.isB_ok (He.cls_ok (c.fact 53 (f := .cls "Ring") rfl)) (by
      have e : (He.tupB K "SPREADS" [.str "hosts", .str "racks"] && (He.tupB K "PENDINGS" [.str "plain", .str "with"] && (DLH.propB K "Ring" "hosts" && (DLH.propB K "Ring" "factor" && (DLH.propB K "Ring" "spread" && (DLH.propB K "Ring" "points" && (DLH.propB K "Ring" "names" && (He.tupB K "KINDS" [.str "hosts", .str "racks"] && (DLH.rowB K (He.ga K "RING_WISHES") [.adr (DLH.rowAt "RING_WISHES" 0), .adr (DLH.rowAt "RING_WISHES" 1), .adr (DLH.rowAt "RING_WISHES" 2)] && (DLH.rowB K (DLH.rowAt "RING_WISHES" 0 K) [.str "share", .int 3] && (DLH.rowB K (DLH.rowAt "RING_WISHES" 1 K) [.str "bears", .int 4] && (DLH.rowB K (DLH.rowAt "RING_WISHES" 2 K) [.str "racks", .int 2] && (DLH.isB K "Ring"))))))))))))) = true := c.more
      obtain ⟨_, e⟩ := He.ba e
      obtain ⟨_, e⟩ := He.ba e
      obtain ⟨_, e⟩ := He.ba e
      obtain ⟨_, e⟩ := He.ba e
      obtain ⟨_, e⟩ := He.ba e
      obtain ⟨_, e⟩ := He.ba e
      obtain ⟨_, e⟩ := He.ba e
      obtain ⟨_, e⟩ := He.ba e
      obtain ⟨_, e⟩ := He.ba e
      obtain ⟨_, e⟩ := He.ba e
      obtain ⟨_, e⟩ := He.ba e
      obtain ⟨_, e⟩ := He.ba e
      exact e)
    g_Ring := He.glo_ok KX G (c.fact 52 (f := .glo "Ring") rfl)
    cRing := He.cls_ok (c.fact 53 (f := .cls "Ring") rfl)
    na := fun f hf => by
      simp only [List.mem_cons, List.not_mem_nil, or_false] at hf
      rcases hf with rfl | rfl | rfl | rfl | rfl | rfl | rfl | rfl
      · exact He.noat_ok (c.fact 57 (f := .noat "Ring" "_points") rfl)
      · exact He.noat_ok (c.fact 58 (f := .noat "Ring" "_factor") rfl)
      · exact He.noat_ok (c.fact 59 (f := .noat "Ring" "_spread") rfl)
      · exact He.noat_ok (c.fact 60 (f := .noat "Ring" "_write") rfl)
      · exact He.noat_ok (c.fact 61 (f := .noat "Ring" "_read_number") rfl)
      · exact He.noat_ok (c.fact 62 (f := .noat "Ring" "_pending") rfl)
      · exact He.noat_ok (c.fact 63 (f := .noat "Ring" "_hosts") rfl)
      · exact He.noat_ok (c.fact 64 (f := .noat "Ring" "__bool__") rfl)
  }
theorem facts {P : Program} (KX : K.In h) (G : h.Ns mainGlobals mg) (c : DLH.SaysR faA fnA exA K) : ∃ fd : FuncData, (∀ (s : Shared) (u : Value), BindsTo s fd ⟨[u], []⟩ [("_law_script", u)]) ∧ ∀ base : Heap, FnG P w K mg base 13 (He.ga K "law") fd P_law (spOf K 1 (sd_law (He.ga K "Ring"))) := by
  have T := tx KX G c
  have e : (He.tupB K "SPREADS" [.str "hosts", .str "racks"] && (He.tupB K "PENDINGS" [.str "plain", .str "with"] && (DLH.propB K "Ring" "hosts" && (DLH.propB K "Ring" "factor" && (DLH.propB K "Ring" "spread" && (DLH.propB K "Ring" "points" && (DLH.propB K "Ring" "names" && (He.tupB K "KINDS" [.str "hosts", .str "racks"] && (DLH.rowB K (He.ga K "RING_WISHES") [.adr (DLH.rowAt "RING_WISHES" 0), .adr (DLH.rowAt "RING_WISHES" 1), .adr (DLH.rowAt "RING_WISHES" 2)] && (DLH.rowB K (DLH.rowAt "RING_WISHES" 0 K) [.str "share", .int 3] && (DLH.rowB K (DLH.rowAt "RING_WISHES" 1 K) [.str "bears", .int 4] && (DLH.rowB K (DLH.rowAt "RING_WISHES" 2 K) [.str "racks", .int 2] && (DLH.isB K "Ring"))))))))))))) = true := c.more
  obtain ⟨e_SPREADS, e⟩ := He.ba e
  obtain ⟨e_PENDINGS, e⟩ := He.ba e
  obtain ⟨e_Ring_hosts, e⟩ := He.ba e
  obtain ⟨e_Ring_factor, e⟩ := He.ba e
  obtain ⟨e_Ring_spread, e⟩ := He.ba e
  obtain ⟨e_Ring_points, e⟩ := He.ba e
  obtain ⟨e_Ring_names, e⟩ := He.ba e
  obtain ⟨e_tupKINDS, e⟩ := He.ba e
  obtain ⟨e_ttRING_WISHES, e⟩ := He.ba e
  obtain ⟨e_ttRING_WISHES0, e⟩ := He.ba e
  obtain ⟨e_ttRING_WISHES1, e⟩ := He.ba e
  obtain ⟨e_ttRING_WISHES2, e⟩ := He.ba e
  have e_isC := e
  obtain ⟨fd_w_dip, D_w_dip⟩ := c.def_ 0 (d := dd_w_dip) rfl
  obtain ⟨fd_w_parts, D_w_parts⟩ := c.def_ 1 (d := dd_w_parts) rfl
  obtain ⟨fd_w_words, D_w_words⟩ := c.def_ 2 (d := dd_w_words) rfl
  obtain ⟨fd_is_ascending, D_is_ascending⟩ := c.def_ 3 (d := dd_is_ascending) rfl
  obtain ⟨fd_is_whole, D_is_whole⟩ := c.def_ 4 (d := dd_is_whole) rfl
  obtain ⟨fd_is_name, D_is_name⟩ := c.def_ 5 (d := dd_is_name) rfl
  obtain ⟨fd_is_word_of, D_is_word_of⟩ := c.def_ 6 (d := dd_is_word_of) rfl
  obtain ⟨fd_all_marks, D_all_marks⟩ := c.def_ 7 (d := dd_all_marks) rfl
  obtain ⟨fd_arcs_up_to, D_arcs_up_to⟩ := c.def_ 8 (d := dd_arcs_up_to) rfl
  obtain ⟨fd_check_ring, D_check_ring⟩ := c.def_ 9 (d := dd_check_ring) rfl
  have hp_Ring_hosts := DLH.propB_ok e_Ring_hosts
  obtain ⟨fd_Ring_hosts, D_Ring_hosts⟩ := c.def_ 10 (d := dd_Ring_hosts) rfl
  have hp_Ring_factor := DLH.propB_ok e_Ring_factor
  obtain ⟨fd_Ring_factor, D_Ring_factor⟩ := c.def_ 11 (d := dd_Ring_factor) rfl
  have hp_Ring_spread := DLH.propB_ok e_Ring_spread
  obtain ⟨fd_Ring_spread, D_Ring_spread⟩ := c.def_ 12 (d := dd_Ring_spread) rfl
  obtain ⟨fd_ahead, D_ahead⟩ := c.def_ 13 (d := dd_ahead) rfl
  have hp_Ring_points := DLH.propB_ok e_Ring_points
  obtain ⟨fd_Ring_points, D_Ring_points⟩ := c.def_ 14 (d := dd_Ring_points) rfl
  obtain ⟨fd_Ring__way, D_Ring__way⟩ := c.def_ 15 (d := dd_Ring__way) rfl
  obtain ⟨fd_worst_fall, D_worst_fall⟩ := c.def_ 16 (d := dd_worst_fall) rfl
  obtain ⟨fd_Ring___getitem__, D_Ring___getitem__⟩ := c.def_ 17 (d := dd_Ring___getitem__) rfl
  obtain ⟨fd_is_form_of, D_is_form_of⟩ := c.def_ 18 (d := dd_is_form_of) rfl
  have hp_Ring_names := DLH.propB_ok e_Ring_names
  obtain ⟨fd_Ring_names, D_Ring_names⟩ := c.def_ 19 (d := dd_Ring_names) rfl
  obtain ⟨fd_w_slots, D_w_slots⟩ := c.def_ 20 (d := dd_w_slots) rfl
  obtain ⟨fd_w_keepers, D_w_keepers⟩ := c.def_ 21 (d := dd_w_keepers) rfl
  obtain ⟨fd_w_well, D_w_well⟩ := c.def_ 22 (d := dd_w_well) rfl
  obtain ⟨fd_w_least_left, D_w_least_left⟩ := c.def_ 23 (d := dd_w_least_left) rfl
  obtain ⟨fd_is_from_to, D_is_from_to⟩ := c.def_ 24 (d := dd_is_from_to) rfl
  obtain ⟨fd_is_free_name, D_is_free_name⟩ := c.def_ 25 (d := dd_is_free_name) rfl
  obtain ⟨fd_w_marks, D_w_marks⟩ := c.def_ 26 (d := dd_w_marks) rfl
  obtain ⟨fd_w_of, D_w_of⟩ := c.def_ 27 (d := dd_w_of) rfl
  obtain ⟨fd_w_names, D_w_names⟩ := c.def_ 28 (d := dd_w_names) rfl
  obtain ⟨fd_w_table, D_w_table⟩ := c.def_ 29 (d := dd_w_table) rfl
  obtain ⟨fd_are_free_marks, D_are_free_marks⟩ := c.def_ 30 (d := dd_are_free_marks) rfl
  obtain ⟨fd_new_racks_first, D_new_racks_first⟩ := c.def_ 31 (d := dd_new_racks_first) rfl
  obtain ⟨fd_check_point, D_check_point⟩ := c.def_ 32 (d := dd_check_point) rfl
  obtain ⟨fd_is_wish_for_ring, D_is_wish_for_ring⟩ := c.def_ 33 (d := dd_is_wish_for_ring) rfl
  obtain ⟨fd_Ring___contains__, D_Ring___contains__⟩ := c.def_ 34 (d := dd_Ring___contains__) rfl
  obtain ⟨fd_w_hosts, D_w_hosts⟩ := c.def_ 35 (d := dd_w_hosts) rfl
  obtain ⟨fd_w_rules, D_w_rules⟩ := c.def_ 36 (d := dd_w_rules) rfl
  obtain ⟨fd_is_next_host, D_is_next_host⟩ := c.def_ 37 (d := dd_is_next_host) rfl
  obtain ⟨fd_keepers_in, D_keepers_in⟩ := c.def_ 38 (d := dd_keepers_in) rfl
  obtain ⟨fd_Ring_walk, D_Ring_walk⟩ := c.def_ 39 (d := dd_Ring_walk) rfl
  obtain ⟨fd_check_name, D_check_name⟩ := c.def_ 40 (d := dd_check_name) rfl
  obtain ⟨fd_w_small, D_w_small⟩ := c.def_ 41 (d := dd_w_small) rfl
  obtain ⟨fd_check_hosts, D_check_hosts⟩ := c.def_ 42 (d := dd_check_hosts) rfl
  obtain ⟨fd_walks, D_walks⟩ := c.def_ 43 (d := dd_walks) rfl
  obtain ⟨fd_Ring___init__, D_Ring___init__⟩ := c.def_ 44 (d := dd_Ring___init__) rfl
  obtain ⟨fd_keepers_at, D_keepers_at⟩ := c.def_ 45 (d := dd_keepers_at) rfl
  obtain ⟨fd_cells, D_cells⟩ := c.def_ 46 (d := dd_cells) rfl
  obtain ⟨fd_w_made, D_w_made⟩ := c.def_ 47 (d := dd_w_made) rfl
  obtain ⟨fd_breach, D_breach⟩ := c.def_ 48 (d := dd_breach) rfl
  obtain ⟨fd_kept, D_kept⟩ := c.def_ 49 (d := dd_kept) rfl
  obtain ⟨fd_thin_key, D_thin_key⟩ := c.def_ 50 (d := dd_thin_key) rfl
  obtain ⟨fd_bears, D_bears⟩ := c.def_ 51 (d := dd_bears) rfl
  obtain ⟨fd_stands, D_stands⟩ := c.def_ 52 (d := dd_stands) rfl
  obtain ⟨fd_w_racks_right, D_w_racks_right⟩ := c.def_ 53 (d := dd_w_racks_right) rfl
  obtain ⟨fd_w_shares_right, D_w_shares_right⟩ := c.def_ 54 (d := dd_w_shares_right) rfl
  obtain ⟨fd_w_right, D_w_right⟩ := c.def_ 55 (d := dd_w_right) rfl
  obtain ⟨fd_law, D_law⟩ := c.def_ 56 (d := dd_law) rfl
  refine ⟨fd_law, fun s v => (FunD.bindsA (ps := P_law) D_law fun _ _ _ _ _ _ us hl => match us, hl with | [_], _ => rfl) s [v] rfl, fun base => ?_⟩
  have O_w_dip := ok_w_dip (P := P) (w := w) (base := base) T  D_w_dip (kp_w_dip _)
  have B_w_dip : Binds K fd_w_dip P_w_dip [] := D_w_dip.bindsN fun _ _ _ _ _ _ us hl => match us, hl with | [_, _], _ => rfl
  have F_w_dip : Fok P w K mg base "_law_dip" 1 2 (sd_w_dip _) := ⟨_, _, _, He.glo_ok KX G (c.fact 0 (f := .glo "_law_dip") rfl), D_w_dip.kp, B_w_dip, O_w_dip⟩
  have O_w_parts := ok_w_parts (P := P) (w := w) (base := base) T  D_w_parts (kp_w_parts _)
  have B_w_parts : Binds K fd_w_parts P_w_parts [] := D_w_parts.bindsN fun _ _ _ _ _ _ us hl => match us, hl with | [_, _], _ => rfl
  have F_w_parts : Fok P w K mg base "_law_parts" 1 2 (sd_w_parts _) := ⟨_, _, _, He.glo_ok KX G (c.fact 1 (f := .glo "_law_parts") rfl), D_w_parts.kp, B_w_parts, O_w_parts⟩
  have O_w_words := ok_w_words (P := P) (w := w) (base := base) T  D_w_words (kp_w_words _)
  have B_w_words : Binds K fd_w_words P_w_words [] := D_w_words.bindsN fun _ _ _ _ _ _ us hl => match us, hl with | [_, _], _ => rfl
  have F_w_words : Fok P w K mg base "_law_words" 1 2 (sd_w_words _) := ⟨_, _, _, He.glo_ok KX G (c.fact 2 (f := .glo "_law_words") rfl), D_w_words.kp, B_w_words, O_w_words⟩
  have O_is_ascending := ok_is_ascending (P := P) (w := w) (base := base) T  D_is_ascending (kp_is_ascending _)
  have B_is_ascending : Binds K fd_is_ascending P_is_ascending [] := D_is_ascending.bindsN fun _ _ _ _ _ _ us hl => match us, hl with | [_], _ => rfl
  have F_is_ascending : Fok P w K mg base "is_ascending" 1 1 (sd_is_ascending _) := ⟨_, _, _, He.glo_ok KX G (c.fact 3 (f := .glo "is_ascending") rfl), D_is_ascending.kp, B_is_ascending, O_is_ascending⟩
  have O_is_whole := ok_is_whole (P := P) (w := w) (base := base) T  D_is_whole (kp_is_whole _)
  have B_is_whole : Binds K fd_is_whole P_is_whole [] := D_is_whole.bindsN fun _ _ _ _ _ _ us hl => match us, hl with | [_], _ => rfl
  have F_is_whole : Fok P w K mg base "is_whole" 1 1 (sd_is_whole _) := ⟨_, _, _, He.glo_ok KX G (c.fact 4 (f := .glo "is_whole") rfl), D_is_whole.kp, B_is_whole, O_is_whole⟩
  have O_is_name := ok_is_name (P := P) (w := w) (base := base) T  D_is_name (kp_is_name _)
  have B_is_name : Binds K fd_is_name P_is_name [] := D_is_name.bindsN fun _ _ _ _ _ _ us hl => match us, hl with | [_], _ => rfl
  have F_is_name : Fok P w K mg base "is_name" 1 1 (sd_is_name _) := ⟨_, _, _, He.glo_ok KX G (c.fact 5 (f := .glo "is_name") rfl), D_is_name.kp, B_is_name, O_is_name⟩
  have O_is_word_of := ok_is_word_of (P := P) (w := w) (base := base) T  D_is_word_of (kp_is_word_of _)
  have B_is_word_of : Binds K fd_is_word_of P_is_word_of [] := D_is_word_of.bindsN fun _ _ _ _ _ _ us hl => match us, hl with | [_, _], _ => rfl
  have F_is_word_of : Fok P w K mg base "is_word_of" 1 2 (sd_is_word_of _) := ⟨_, _, _, He.glo_ok KX G (c.fact 6 (f := .glo "is_word_of") rfl), D_is_word_of.kp, B_is_word_of, O_is_word_of⟩
  have O_all_marks := ok_all_marks (P := P) (w := w) (base := base) T  D_all_marks (kp_all_marks _)
  have B_all_marks : Binds K fd_all_marks P_all_marks [] := D_all_marks.bindsN fun _ _ _ _ _ _ us hl => match us, hl with | [_], _ => rfl
  have F_all_marks : Fok P w K mg base "all_marks" 1 1 (sd_all_marks _) := ⟨_, _, _, He.glo_ok KX G (c.fact 7 (f := .glo "all_marks") rfl), D_all_marks.kp, B_all_marks, O_all_marks⟩
  have O_arcs_up_to := ok_arcs_up_to (P := P) (w := w) (base := base) T  D_arcs_up_to (kp_arcs_up_to _)
  have B_arcs_up_to : Binds K fd_arcs_up_to P_arcs_up_to [] := D_arcs_up_to.bindsN fun _ _ _ _ _ _ us hl => match us, hl with | [_, _], _ => rfl
  have F_arcs_up_to : Fok P w K mg base "arcs_up_to" 1 2 (sd_arcs_up_to _) := ⟨_, _, _, He.glo_ok KX G (c.fact 8 (f := .glo "arcs_up_to") rfl), D_arcs_up_to.kp, B_arcs_up_to, O_arcs_up_to⟩
  have O_check_ring := ok_check_ring (P := P) (w := w) (base := base) T  D_check_ring (kp_check_ring _)
  have B_check_ring : Binds K fd_check_ring P_check_ring [] := D_check_ring.bindsN fun _ _ _ _ _ _ us hl => match us, hl with | [_], _ => rfl
  have F_check_ring : Fok P w K mg base "check_ring" 1 1 (sd_check_ring _) := ⟨_, _, _, He.glo_ok KX G (c.fact 9 (f := .glo "check_ring") rfl), D_check_ring.kp, B_check_ring, O_check_ring⟩
  have O_Ring_hosts := ok_Ring_hosts (P := P) (w := w) (base := base) T  D_Ring_hosts (kp_Ring_hosts _)
  have B_Ring_hosts : Binds K fd_Ring_hosts P_Ring_hosts [] := D_Ring_hosts.bindsN fun _ _ _ _ _ _ us hl => match us, hl with | [_], _ => rfl
  have P_Ring_hosts : Pok P w K mg base (He.ga K "Ring") "hosts" 1 (sd_Ring_hosts _) := ⟨T.cRing, _, _, _, _, hp_Ring_hosts, B_Ring_hosts, O_Ring_hosts⟩
  have O_Ring_factor := ok_Ring_factor (P := P) (w := w) (base := base) T  D_Ring_factor (kp_Ring_factor _)
  have B_Ring_factor : Binds K fd_Ring_factor P_Ring_factor [] := D_Ring_factor.bindsN fun _ _ _ _ _ _ us hl => match us, hl with | [_], _ => rfl
  have P_Ring_factor : Pok P w K mg base (He.ga K "Ring") "factor" 1 (sd_Ring_factor _) := ⟨T.cRing, _, _, _, _, hp_Ring_factor, B_Ring_factor, O_Ring_factor⟩
  have O_Ring_spread := ok_Ring_spread (P := P) (w := w) (base := base) T  D_Ring_spread (kp_Ring_spread _)
  have B_Ring_spread : Binds K fd_Ring_spread P_Ring_spread [] := D_Ring_spread.bindsN fun _ _ _ _ _ _ us hl => match us, hl with | [_], _ => rfl
  have P_Ring_spread : Pok P w K mg base (He.ga K "Ring") "spread" 1 (sd_Ring_spread _) := ⟨T.cRing, _, _, _, _, hp_Ring_spread, B_Ring_spread, O_Ring_spread⟩
  have O_ahead := ok_ahead (P := P) (w := w) (base := base) T  D_ahead (kp_ahead _)
  have B_ahead : Binds K fd_ahead P_ahead [] := D_ahead.bindsN fun _ _ _ _ _ _ us hl => match us, hl with | [_, _], _ => rfl
  have F_ahead : Fok P w K mg base "ahead" 1 2 (sd_ahead _) := ⟨_, _, _, He.glo_ok KX G (c.fact 10 (f := .glo "ahead") rfl), D_ahead.kp, B_ahead, O_ahead⟩
  have O_Ring_points := ok_Ring_points (P := P) (w := w) (base := base) T  D_Ring_points (kp_Ring_points _)
  have B_Ring_points : Binds K fd_Ring_points P_Ring_points [] := D_Ring_points.bindsN fun _ _ _ _ _ _ us hl => match us, hl with | [_], _ => rfl
  have P_Ring_points : Pok P w K mg base (He.ga K "Ring") "points" 1 (sd_Ring_points _) := ⟨T.cRing, _, _, _, _, hp_Ring_points, B_Ring_points, O_Ring_points⟩
  have O_Ring__way := ok_Ring__way (P := P) (w := w) (base := base) T  D_Ring__way (kp_Ring__way _)
  have B_Ring__way : Binds K fd_Ring__way P_Ring__way [] := D_Ring__way.bindsN fun _ _ _ _ _ _ us hl => match us, hl with | [_, _, _], _ => rfl
  have F_Ring__way : Mok P w K mg base (He.ga K "Ring") "_way" 1 3 (sd_Ring__way _) := ⟨T.cRing, _, _, _, He.meth_ok (c.fact 11 (f := .meth "Ring" "_way") rfl), fnIn_of D_Ring__way, B_Ring__way, O_Ring__way⟩
  have O_worst_fall := ok_worst_fall (P := P) (w := w) (base := base) T  D_worst_fall (kp_worst_fall _)
  have B_worst_fall : Binds K fd_worst_fall P_worst_fall [] := D_worst_fall.bindsN fun _ _ _ _ _ _ us hl => match us, hl with | [_, _], _ => rfl
  have F_worst_fall : Fok P w K mg base "worst_fall" 1 2 (sd_worst_fall _) := ⟨_, _, _, He.glo_ok KX G (c.fact 12 (f := .glo "worst_fall") rfl), D_worst_fall.kp, B_worst_fall, O_worst_fall⟩
  have O_Ring___getitem__ := ok_Ring___getitem__ (P := P) (w := w) (base := base) T  D_Ring___getitem__ (kp_Ring___getitem__ _)
  have B_Ring___getitem__ : Binds K fd_Ring___getitem__ P_Ring___getitem__ [] := D_Ring___getitem__.bindsN fun _ _ _ _ _ _ us hl => match us, hl with | [_, _], _ => rfl
  have F_Ring___getitem__ : Mok P w K mg base (He.ga K "Ring") "__getitem__" 1 2 (sd_Ring___getitem__ _) := ⟨T.cRing, _, _, _, He.meth_ok (c.fact 13 (f := .meth "Ring" "__getitem__") rfl), fnIn_of D_Ring___getitem__, B_Ring___getitem__, O_Ring___getitem__⟩
  have O_is_form_of := ok_is_form_of (P := P) (w := w) (base := base) T  D_is_form_of (kp_is_form_of _)
  have B_is_form_of : Binds K fd_is_form_of P_is_form_of [] := D_is_form_of.bindsN fun _ _ _ _ _ _ us hl => match us, hl with | [_, _], _ => rfl
  have F_is_form_of : Fok P w K mg base "is_form_of" 1 2 (sd_is_form_of _) := ⟨_, _, _, He.glo_ok KX G (c.fact 14 (f := .glo "is_form_of") rfl), D_is_form_of.kp, B_is_form_of, O_is_form_of⟩
  have O_Ring_names := ok_Ring_names (P := P) (w := w) (base := base) T  D_Ring_names (kp_Ring_names _)
  have B_Ring_names : Binds K fd_Ring_names P_Ring_names [] := D_Ring_names.bindsN fun _ _ _ _ _ _ us hl => match us, hl with | [_], _ => rfl
  have P_Ring_names : Pok P w K mg base (He.ga K "Ring") "names" 1 (sd_Ring_names _) := ⟨T.cRing, _, _, _, _, hp_Ring_names, B_Ring_names, O_Ring_names⟩
  have O_w_slots := ok_w_slots (P := P) (w := w) (base := base) T  D_w_slots (kp_w_slots _)
  have B_w_slots : Binds K fd_w_slots P_w_slots [] := D_w_slots.bindsN fun _ _ _ _ _ _ us hl => match us, hl with | [_], _ => rfl
  have F_w_slots : Fok P w K mg base "_law_slots" 1 1 (sd_w_slots _) := ⟨_, _, _, He.glo_ok KX G (c.fact 15 (f := .glo "_law_slots") rfl), D_w_slots.kp, B_w_slots, O_w_slots⟩
  have O_w_keepers := ok_w_keepers (P := P) (w := w) (base := base) T  D_w_keepers (kp_w_keepers _)
  have B_w_keepers : Binds K fd_w_keepers P_w_keepers [] := D_w_keepers.bindsN fun _ _ _ _ _ _ us hl => match us, hl with | [_, _, _], _ => rfl
  have F_w_keepers : Fok P w K mg base "_law_keepers" 1 3 (sd_w_keepers _) := ⟨_, _, _, He.glo_ok KX G (c.fact 16 (f := .glo "_law_keepers") rfl), D_w_keepers.kp, B_w_keepers, O_w_keepers⟩
  have O_w_well := ok_w_well (P := P) (w := w) (base := base) T  D_w_well (kp_w_well _)
  have B_w_well : Binds K fd_w_well P_w_well [] := D_w_well.bindsN fun _ _ _ _ _ _ us hl => match us, hl with | [_, _], _ => rfl
  have F_w_well : Fok P w K mg base "_law_well" 1 2 (sd_w_well _) := ⟨_, _, _, He.glo_ok KX G (c.fact 17 (f := .glo "_law_well") rfl), D_w_well.kp, B_w_well, O_w_well⟩
  have O_w_least_left := ok_w_least_left (P := P) (w := w) (base := base) T F_w_parts F_w_words D_w_least_left (kp_w_least_left _)
  have B_w_least_left : Binds K fd_w_least_left P_w_least_left [] := D_w_least_left.bindsN fun _ _ _ _ _ _ us hl => match us, hl with | [_, _, _, _], _ => rfl
  have F_w_least_left : Fok P w K mg base "_law_least_left" 2 4 (sd_w_least_left _) := ⟨_, _, _, He.glo_ok KX G (c.fact 18 (f := .glo "_law_least_left") rfl), D_w_least_left.kp, B_w_least_left, O_w_least_left⟩
  have O_is_from_to := ok_is_from_to (P := P) (w := w) (base := base) T F_is_whole D_is_from_to (kp_is_from_to _)
  have B_is_from_to : Binds K fd_is_from_to P_is_from_to [] := D_is_from_to.bindsN fun _ _ _ _ _ _ us hl => match us, hl with | [_, _, _], _ => rfl
  have F_is_from_to : Fok P w K mg base "is_from_to" 2 3 (sd_is_from_to _) := ⟨_, _, _, He.glo_ok KX G (c.fact 19 (f := .glo "is_from_to") rfl), D_is_from_to.kp, B_is_from_to, O_is_from_to⟩
  have O_is_free_name := ok_is_free_name (P := P) (w := w) (base := base) T F_is_name D_is_free_name (kp_is_free_name _)
  have B_is_free_name : Binds K fd_is_free_name P_is_free_name [] := D_is_free_name.bindsN fun _ _ _ _ _ _ us hl => match us, hl with | [_, _], _ => rfl
  have F_is_free_name : Fok P w K mg base "is_free_name" 2 2 (sd_is_free_name _) := ⟨_, _, _, He.glo_ok KX G (c.fact 20 (f := .glo "is_free_name") rfl), D_is_free_name.kp, B_is_free_name, O_is_free_name⟩
  have O_w_marks := ok_w_marks (P := P) (w := w) (base := base) T F_w_dip D_w_marks (kp_w_marks _)
  have B_w_marks : Binds K fd_w_marks P_w_marks [] := D_w_marks.bindsN fun _ _ _ _ _ _ us hl => match us, hl with | [_, _, _], _ => rfl
  have F_w_marks : Fok P w K mg base "_law_marks" 2 3 (sd_w_marks _) := ⟨_, _, _, He.glo_ok KX G (c.fact 21 (f := .glo "_law_marks") rfl), D_w_marks.kp, B_w_marks, O_w_marks⟩
  have O_w_of := ok_w_of (P := P) (w := w) (base := base) T F_w_dip D_w_of (kp_w_of _)
  have B_w_of : Binds K fd_w_of P_w_of [] := D_w_of.bindsN fun _ _ _ _ _ _ us hl => match us, hl with | [_, _], _ => rfl
  have F_w_of : Fok P w K mg base "_law_of" 2 2 (sd_w_of _) := ⟨_, _, _, He.glo_ok KX G (c.fact 22 (f := .glo "_law_of") rfl), D_w_of.kp, B_w_of, O_w_of⟩
  have O_w_names := ok_w_names (P := P) (w := w) (base := base) T F_w_dip D_w_names (kp_w_names _)
  have B_w_names : Binds K fd_w_names P_w_names [] := D_w_names.bindsN fun _ _ _ _ _ _ us hl => match us, hl with | [_], _ => rfl
  have F_w_names : Fok P w K mg base "_law_names" 2 1 (sd_w_names _) := ⟨_, _, _, He.glo_ok KX G (c.fact 23 (f := .glo "_law_names") rfl), D_w_names.kp, B_w_names, O_w_names⟩
  have O_w_table := ok_w_table (P := P) (w := w) (base := base) T F_w_keepers D_w_table (kp_w_table _)
  have B_w_table : Binds K fd_w_table P_w_table [] := D_w_table.bindsN fun _ _ _ _ _ _ us hl => match us, hl with | [_, _], _ => rfl
  have F_w_table : Fok P w K mg base "_law_table" 2 2 (sd_w_table _) := ⟨_, _, _, He.glo_ok KX G (c.fact 24 (f := .glo "_law_table") rfl), D_w_table.kp, B_w_table, O_w_table⟩
  have O_are_free_marks := ok_are_free_marks (P := P) (w := w) (base := base) T F_is_ascending F_is_from_to D_are_free_marks (kp_are_free_marks _)
  have B_are_free_marks : Binds K fd_are_free_marks P_are_free_marks [] := D_are_free_marks.bindsN fun _ _ _ _ _ _ us hl => match us, hl with | [_, _, _], _ => rfl
  have F_are_free_marks : Fok P w K mg base "are_free_marks" 3 3 (sd_are_free_marks _) := ⟨_, _, _, He.glo_ok KX G (c.fact 25 (f := .glo "are_free_marks") rfl), D_are_free_marks.kp, B_are_free_marks, O_are_free_marks⟩
  have O_new_racks_first := ok_new_racks_first (P := P) (w := w) (base := base) T P_Ring_hosts D_new_racks_first (kp_new_racks_first _)
  have B_new_racks_first : Binds K fd_new_racks_first P_new_racks_first [] := D_new_racks_first.bindsN fun _ _ _ _ _ _ us hl => match us, hl with | [_, _], _ => rfl
  have F_new_racks_first : Fok P w K mg base "new_racks_first" 3 2 (sd_new_racks_first _) := ⟨_, _, _, He.glo_ok KX G (c.fact 26 (f := .glo "new_racks_first") rfl), D_new_racks_first.kp, B_new_racks_first, O_new_racks_first⟩
  have O_check_point := ok_check_point (P := P) (w := w) (base := base) T P_Ring_points F_is_from_to D_check_point (kp_check_point _)
  have B_check_point : Binds K fd_check_point P_check_point [] := D_check_point.bindsN fun _ _ _ _ _ _ us hl => match us, hl with | [_, _], _ => rfl
  have F_check_point : Fok P w K mg base "check_point" 3 2 (sd_check_point _) := ⟨_, _, _, He.glo_ok KX G (c.fact 27 (f := .glo "check_point") rfl), D_check_point.kp, B_check_point, O_check_point⟩
  have O_is_wish_for_ring := ok_is_wish_for_ring (P := P) (w := w) (base := base) T F_is_form_of F_is_from_to F_is_name F_is_whole F_is_word_of D_is_wish_for_ring (kp_is_wish_for_ring _)
  have B_is_wish_for_ring : Binds K fd_is_wish_for_ring P_is_wish_for_ring [] := D_is_wish_for_ring.bindsN fun _ _ _ _ _ _ us hl => match us, hl with | [_], _ => rfl
  have F_is_wish_for_ring : Fok P w K mg base "is_wish_for_ring" 3 1 (sd_is_wish_for_ring _) := ⟨_, _, _, He.glo_ok KX G (c.fact 28 (f := .glo "is_wish_for_ring") rfl), D_is_wish_for_ring.kp, B_is_wish_for_ring, O_is_wish_for_ring⟩
  have O_Ring___contains__ := ok_Ring___contains__ (P := P) (w := w) (base := base) T P_Ring_names F_is_word_of D_Ring___contains__ (kp_Ring___contains__ _)
  have B_Ring___contains__ : Binds K fd_Ring___contains__ P_Ring___contains__ [] := D_Ring___contains__.bindsN fun _ _ _ _ _ _ us hl => match us, hl with | [_, _], _ => rfl
  have F_Ring___contains__ : Mok P w K mg base (He.ga K "Ring") "__contains__" 3 2 (sd_Ring___contains__ _) := ⟨T.cRing, _, _, _, He.meth_ok (c.fact 29 (f := .meth "Ring" "__contains__") rfl), fnIn_of D_Ring___contains__, B_Ring___contains__, O_Ring___contains__⟩
  have O_w_hosts := ok_w_hosts (P := P) (w := w) (base := base) T F_w_dip F_w_marks F_w_of D_w_hosts (kp_w_hosts _)
  have B_w_hosts : Binds K fd_w_hosts P_w_hosts [] := D_w_hosts.bindsN fun _ _ _ _ _ _ us hl => match us, hl with | [_, _, _, _, _], _ => rfl
  have F_w_hosts : Fok P w K mg base "_law_hosts" 3 5 (sd_w_hosts _) := ⟨_, _, _, He.glo_ok KX G (c.fact 30 (f := .glo "_law_hosts") rfl), D_w_hosts.kp, B_w_hosts, O_w_hosts⟩
  have O_w_rules := ok_w_rules (P := P) (w := w) (base := base) T F_w_dip F_w_of D_w_rules (kp_w_rules _)
  have B_w_rules : Binds K fd_w_rules P_w_rules [] := D_w_rules.bindsN fun _ _ _ _ _ _ us hl => match us, hl with | [_, _, _], _ => rfl
  have F_w_rules : Fok P w K mg base "_law_rules" 3 3 (sd_w_rules _) := ⟨_, _, _, He.glo_ok KX G (c.fact 31 (f := .glo "_law_rules") rfl), D_w_rules.kp, B_w_rules, O_w_rules⟩
  have O_is_next_host := ok_is_next_host (P := P) (w := w) (base := base) T F_are_free_marks F_is_free_name F_is_name D_is_next_host (kp_is_next_host _)
  have B_is_next_host : Binds K fd_is_next_host P_is_next_host [] := D_is_next_host.bindsN fun _ _ _ _ _ _ us hl => match us, hl with | [_, _, _], _ => rfl
  have F_is_next_host : Fok P w K mg base "is_next_host" 4 3 (sd_is_next_host _) := ⟨_, _, _, He.glo_ok KX G (c.fact 32 (f := .glo "is_next_host") rfl), D_is_next_host.kp, B_is_next_host, O_is_next_host⟩
  have O_keepers_in := ok_keepers_in (P := P) (w := w) (base := base) T P_Ring_factor P_Ring_spread F_new_racks_first D_keepers_in (kp_keepers_in _)
  have B_keepers_in : Binds K fd_keepers_in P_keepers_in [] := D_keepers_in.bindsN fun _ _ _ _ _ _ us hl => match us, hl with | [_, _], _ => rfl
  have F_keepers_in : Fok P w K mg base "keepers_in" 4 2 (sd_keepers_in _) := ⟨_, _, _, He.glo_ok KX G (c.fact 33 (f := .glo "keepers_in") rfl), D_keepers_in.kp, B_keepers_in, O_keepers_in⟩
  have O_Ring_walk := ok_Ring_walk (P := P) (w := w) (base := base) T F_Ring__way F_check_point D_Ring_walk (kp_Ring_walk _)
  have B_Ring_walk : Binds K fd_Ring_walk P_Ring_walk [] := D_Ring_walk.bindsN fun _ _ _ _ _ _ us hl => match us, hl with | [_, _], _ => rfl
  have F_Ring_walk : Mok P w K mg base (He.ga K "Ring") "walk" 4 2 (sd_Ring_walk _) := ⟨T.cRing, _, _, _, He.meth_ok (c.fact 34 (f := .meth "Ring" "walk") rfl), fnIn_of D_Ring_walk, B_Ring_walk, O_Ring_walk⟩
  have O_check_name := ok_check_name (P := P) (w := w) (base := base) T F_Ring___contains__ D_check_name (kp_check_name _)
  have B_check_name : Binds K fd_check_name P_check_name [] := D_check_name.bindsN fun _ _ _ _ _ _ us hl => match us, hl with | [_, _], _ => rfl
  have F_check_name : Fok P w K mg base "check_name" 4 2 (sd_check_name _) := ⟨_, _, _, He.glo_ok KX G (c.fact 35 (f := .glo "check_name") rfl), D_check_name.kp, B_check_name, O_check_name⟩
  have O_w_small := ok_w_small (P := P) (w := w) (base := base) T F_w_dip F_w_hosts F_w_names F_w_rules F_w_slots D_w_small (kp_w_small _)
  have B_w_small : Binds K fd_w_small P_w_small [] := D_w_small.bindsN fun _ _ _ _ _ _ us hl => match us, hl with | [_, _, _, _, _], _ => rfl
  have F_w_small : Fok P w K mg base "_law_small" 4 5 (sd_w_small _) := ⟨_, _, _, He.glo_ok KX G (c.fact 36 (f := .glo "_law_small") rfl), D_w_small.kp, B_w_small, O_w_small⟩
  have O_check_hosts := ok_check_hosts (P := P) (w := w) (base := base) T F_is_next_host D_check_hosts (kp_check_hosts _)
  have B_check_hosts : Binds K fd_check_hosts P_check_hosts [] := D_check_hosts.bindsN fun _ _ _ _ _ _ us hl => match us, hl with | [_, _], _ => rfl
  have F_check_hosts : Fok P w K mg base "check_hosts" 5 2 (sd_check_hosts _) := ⟨_, _, _, He.glo_ok KX G (c.fact 37 (f := .glo "check_hosts") rfl), D_check_hosts.kp, B_check_hosts, O_check_hosts⟩
  have O_walks := ok_walks (P := P) (w := w) (base := base) T P_Ring_hosts F_Ring_walk F_ahead D_walks (kp_walks _)
  have B_walks : Binds K fd_walks P_walks [] := D_walks.bindsN fun _ _ _ _ _ _ us hl => match us, hl with | [_], _ => rfl
  have F_walks : Fok P w K mg base "walks" 5 1 (sd_walks _) := ⟨_, _, _, He.glo_ok KX G (c.fact 38 (f := .glo "walks") rfl), D_walks.kp, B_walks, O_walks⟩
  have O_Ring___init__ := ok_Ring___init__ (P := P) (w := w) (base := base) T F_check_hosts F_is_from_to F_is_word_of D_Ring___init__ (kp_Ring___init__ _)
  have B_Ring___init__ : Binds K fd_Ring___init__ P_Ring___init__ [] := D_Ring___init__.bindsN fun _ _ _ _ _ _ us hl => match us, hl with | [_, _, _, _, _, _, _, _], _ => rfl
  have F_Ring : Kok P w K mg base "Ring" (He.ga K "Ring") 6 8 (sd_Ring___init__ _) := ⟨_, _, _, He.glo_ok KX G (c.fact 52 (f := .glo "Ring") rfl), He.mkr_ok (c.fact 54 (f := .mkr "Ring") rfl), B_Ring___init__, O_Ring___init__⟩
  have O_keepers_at := ok_keepers_at (P := P) (w := w) (base := base) T F_keepers_in F_walks D_keepers_at (kp_keepers_at _)
  have B_keepers_at : Binds K fd_keepers_at P_keepers_at [] := D_keepers_at.bindsN fun _ _ _ _ _ _ us hl => match us, hl with | [_, _], _ => rfl
  have F_keepers_at : Fok P w K mg base "keepers_at" 6 2 (sd_keepers_at _) := ⟨_, _, _, He.glo_ok KX G (c.fact 40 (f := .glo "keepers_at") rfl), D_keepers_at.kp, B_keepers_at, O_keepers_at⟩
  have O_cells := ok_cells (P := P) (w := w) (base := base) T P_Ring_hosts P_Ring_points F_all_marks F_arcs_up_to F_check_ring F_keepers_at D_cells (kp_cells _)
  have B_cells : Binds K fd_cells P_cells [] := D_cells.bindsN fun _ _ _ _ _ _ us hl => match us, hl with | [_], _ => rfl
  have F_cells : Fok P w K mg base "cells" 7 1 (sd_cells _) := ⟨_, _, _, He.glo_ok KX G (c.fact 41 (f := .glo "cells") rfl), D_cells.kp, B_cells, O_cells⟩
  have O_w_made := ok_w_made (P := P) (w := w) (base := base) T F_Ring D_w_made (kp_w_made _)
  have B_w_made : Binds K fd_w_made P_w_made [] := D_w_made.bindsN fun _ _ _ _ _ _ us hl => match us, hl with | [_, _], _ => rfl
  have F_w_made : Fok P w K mg base "_law_made" 8 2 (sd_w_made _) := ⟨_, _, _, He.glo_ok KX G (c.fact 42 (f := .glo "_law_made") rfl), D_w_made.kp, B_w_made, O_w_made⟩
  have O_breach := ok_breach (P := P) (w := w) (base := base) T F_Ring___getitem__ F_cells F_check_ring F_is_from_to F_is_word_of F_worst_fall D_breach (kp_breach _)
  have B_breach : Binds K fd_breach P_breach [] := D_breach.bindsN fun _ _ _ _ _ _ us hl => match us, hl with | [_, _, _, _], _ => rfl
  have F_breach : Fok P w K mg base "breach" 8 4 (sd_breach _) := ⟨_, _, _, He.glo_ok KX G (c.fact 43 (f := .glo "breach") rfl), D_breach.kp, B_breach, O_breach⟩
  have O_kept := ok_kept (P := P) (w := w) (base := base) T F_cells F_check_name F_check_ring D_kept (kp_kept _)
  have B_kept : Binds K fd_kept P_kept [] := D_kept.bindsN fun _ _ _ _ _ _ us hl => match us, hl with | [_, _], _ => rfl
  have F_kept : Fok P w K mg base "kept" 8 2 (sd_kept _) := ⟨_, _, _, He.glo_ok KX G (c.fact 44 (f := .glo "kept") rfl), D_kept.kp, B_kept, O_kept⟩
  have O_thin_key := ok_thin_key (P := P) (w := w) (base := base) T P_Ring_hosts F_cells D_thin_key (kp_thin_key _)
  have B_thin_key : Binds K fd_thin_key P_thin_key [] := D_thin_key.bindsN fun _ _ _ _ _ _ us hl => match us, hl with | [_, _], _ => rfl
  have F_thin_key : Fok P w K mg base "thin_key" 8 2 (sd_thin_key _) := ⟨_, _, _, He.glo_ok KX G (c.fact 45 (f := .glo "thin_key") rfl), D_thin_key.kp, B_thin_key, O_thin_key⟩
  have O_bears := ok_bears (P := P) (w := w) (base := base) T F_breach D_bears (kp_bears _)
  have B_bears : Binds K fd_bears P_bears [] := D_bears.bindsN fun _ _ _ _ _ _ us hl => match us, hl with | [_, _, _, _], _ => rfl
  have F_bears : Fok P w K mg base "bears" 9 4 (sd_bears _) := ⟨_, _, _, He.glo_ok KX G (c.fact 46 (f := .glo "bears") rfl), D_bears.kp, B_bears, O_bears⟩
  have O_stands := ok_stands (P := P) (w := w) (base := base) T F_Ring___contains__ F_bears F_check_ring F_is_wish_for_ring F_kept F_thin_key D_stands (kp_stands _)
  have B_stands : Binds K fd_stands P_stands [] := D_stands.bindsN fun _ _ _ _ _ _ us hl => match us, hl with | [_, _], _ => rfl
  have F_stands : Fok P w K mg base "stands" 10 2 (sd_stands _) := ⟨_, _, _, He.glo_ok KX G (c.fact 47 (f := .glo "stands") rfl), D_stands.kp, B_stands, O_stands⟩
  have FP_stands_wish_ring : FokP P w K mg base "stands" 10 2 ["wish", "ring"] [1, 0] (sd_stands _) := ⟨_, _, _, He.glo_ok KX G (c.fact 47 (f := .glo "stands") rfl), D_stands.kp, fun s ws l2 => by
    obtain ⟨oc, od, dV, kV, doc, pm, an, cdv, ct, osl, rfl, lk, hcd, hD, hK⟩ := D_stands.ex
    rcases hD with ⟨_, rfl⟩ | ⟨e, _⟩
    · exact .of_eq (match ws, l2 with | [_, _], _ => rfl)
    · exact absurd rfl e, O_stands⟩
  have O_w_racks_right := ok_w_racks_right (P := P) (w := w) (base := base) T F_stands F_w_words D_w_racks_right (kp_w_racks_right _)
  have B_w_racks_right : Binds K fd_w_racks_right P_w_racks_right [] := D_w_racks_right.bindsN fun _ _ _ _ _ _ us hl => match us, hl with | [_, _, _], _ => rfl
  have F_w_racks_right : Fgd P w K mg base "_law_racks_right" 11 3 (sd_w_racks_right _) := ⟨_, _, _, He.glo_ok KX G (c.fact 48 (f := .glo "_law_racks_right") rfl), D_w_racks_right.kp, B_w_racks_right, O_w_racks_right⟩
  have O_w_shares_right := ok_w_shares_right (P := P) (w := w) (base := base) T F_stands FP_stands_wish_ring D_w_shares_right (kp_w_shares_right _)
  have B_w_shares_right : Binds K fd_w_shares_right P_w_shares_right [] := D_w_shares_right.bindsN fun _ _ _ _ _ _ us hl => match us, hl with | [_, _, _], _ => rfl
  have F_w_shares_right : Fgd P w K mg base "_law_shares_right" 11 3 (sd_w_shares_right _) := ⟨_, _, _, He.glo_ok KX G (c.fact 49 (f := .glo "_law_shares_right") rfl), D_w_shares_right.kp, B_w_shares_right, O_w_shares_right⟩
  have O_w_right := ok_w_right (P := P) (w := w) (base := base) T F_stands F_w_dip F_w_least_left F_w_made F_w_racks_right F_w_shares_right F_w_small F_w_table D_w_right (kp_w_right _)
  have B_w_right : Binds K fd_w_right P_w_right [] := D_w_right.bindsN fun _ _ _ _ _ _ us hl => match us, hl with | [_], _ => rfl
  have F_w_right : Fgd P w K mg base "_law_right" 12 1 (sd_w_right _) := ⟨_, _, _, He.glo_ok KX G (c.fact 50 (f := .glo "_law_right") rfl), D_w_right.kp, B_w_right, O_w_right⟩
  exact ok_law T F_w_right F_w_well D_law (kp_law _)
end
end L47
set_option maxRecDepth 100000
set_option maxHeartbeats 4000000
namespace DL
open PySem PySem.Spec PyProof.Rows L2
section
variable {P : Program} {w : World} {K : PySem.W.Frag} {mg mb : Str → Option Value} {k : Nat} {l c : Addr} {fd : FuncData} {x : Str} {sp : Sp} {s : Shared} {us : List Value} {ns : List Int}
/-- nothing but the cell c is told of, and that is no object of the text -/
structure Lone (P : Program) (w : World) (K : PySem.W.Frag) (s : Shared) (c : Addr) (T : Hp) : Prop where
  only : Only T
  hok : HOk P w T s.heap
  one : ∀ b, T b ≠ none → b = c
  out : T c ≠ none → K.lookup c = none
theorem Lone.env {T : Hp} (L : Lone P w K s c T) (KX : K.In s.heap) (g1 : s.heap.Ns mainGlobals mg) (g2 : s.heap.Ns builtinsNs mb) (g3 : ∀ x : Str, x ≠ "__name__" → mb x = bootBuiltins x) (g4 : s.heap.NoLimit) (g5 : s.gens = #[])
    (hc : s.heap.get? c = some { cls := .type "list", data := .seq us.toArray }) : Env0 P w K mg (hidT s.heap T) callerA [] s T := by
  have free : ∀ {b : Addr} {o : Obj} {es : Array DictEntry} {n : Nat}, s.heap.get? b = some o → o.data = .dict es n → T b = none := by
    intro b o es n e d
    by_cases q : T b = none
    · exact q
    · have eb := L.one b q
      rw [eb, hc] at e
      cases e
      cases d
  have space : ∀ {b : Addr} {m : Str → Option Value}, s.heap.Ns b m → (hidT s.heap T).Ns b m := by
    rintro b m ⟨o, es, n, e, d, r⟩
    exact ⟨o, es, n, hidT_get e (free e d), d, r⟩
  have inK : K.In (hidT s.heap T) := by
    intro b o e
    refine hidT_get (KX b o e) ?_
    by_cases q : T b = none
    · exact q
    · have eb := L.one b q
      rw [eb] at q e
      rw [L.out q] at e
      cases e
  obtain ⟨mc, n1, n2⟩ := g4
  exact ⟨rfl, ⟨inK, space g1, ⟨mb, space g2, g3⟩, ⟨mc, space n1, n2⟩⟩, fun b o e => of_hidT e, Nat.le_of_eq (hidT_size _ _), trivial, fun b hb => (nomatch (show b ∈ ([] : List Addr) from hb)), L.hok, .of_eq g5⟩
theorem Lone.run {T : Hp} (L : Lone P w K s c T) (e0 : ∀ (base : Heap), FnG P w K mg base k l fd [x] sp) (ev : Env0 P w K mg (hidT s.heap T) callerA [] s T) (hr : Room k callerA) (bi : BindsTo s fd ⟨[.ref c], []⟩ [(x, .ref c)])
    (pr : sp [.ref c] T (fun v _ => v = .bl true) fun _ _ _ => False) : codeAny (model P w) callerA (.call (.ref l) ⟨[.ref c], []⟩) (fun r s' => r = .ok (.ret (.bool true)) ∧ OldK s.heap s'.heap ∧ s'.os = s.os ∧ AllBare s'.gens) s := by
  have one : Vals [V.ref c] [Value.ref c] := .cons rfl .nil
  refine codeAny_mono ((e0 _).run callerA [] s T ⟨[.ref c], []⟩ [.ref c] [.ref c] _ _ hr rfl ev bi one pr) ?_
  intro r s' z
  match r, z with
  | .error e, z =>
    obtain ⟨_, _, _, _, _, _, _, _, _, _, _, _, f⟩ := z
    exact f.elim
  | .ok .next, z => exact z.elim
  | .ok .brk, z => exact z.elim
  | .ok .cont, z => exact z.elim
  | .ok (.ret u), z =>
    obtain ⟨v, T', z1, z2, z3, z4, z5, z6⟩ := z
    have e6 : v = .bl true := z6
    subst e6
    have e5 : u = Value.bool true := z5
    subst e5
    refine ⟨rfl, OldK.of_keep ?_, z1, z2⟩
    intro b o e
    rcases L.only b with q | ⟨ob, xs, q⟩
    · exact z3.keep b o e q (fun m => nomatch (show b ∈ ([] : List Addr) from m)) (by simp)
    · obtain ⟨a1, _⟩ := L.hok b _ q
      obtain ⟨a2, _⟩ := z4 b _ (z3.frzs b ob _ q)
      rw [e] at a1
      cases a1
      exact a2
theorem end_G (KX : K.In s.heap) (g1 : s.heap.Ns mainGlobals mg) (g2 : s.heap.Ns builtinsNs mb) (g3 : ∀ x : Str, x ≠ "__name__" → mb x = bootBuiltins x) (g4 : s.heap.NoLimit) (g5 : s.gens = #[])
    (hc : s.heap.get? c = some { cls := .type "list", data := .seq us.toArray }) (hi : IntsAre us ns) (hz : ns.length ≤ sizeLine) (hr : Room k callerA) (F : ∀ base : Heap, FnG P w K mg base k l fd [x] sp) (bi : ∀ (s : Shared) (u : Value), BindsTo s fd ⟨[u], []⟩ [(x, u)])
    (pr : ∀ T : Hp, SqL K T c (ns.map V.int) → sp [.ref c] T (fun v _ => v = .bl true) fun _ _ _ => False) :
    codeAny (model P w) callerA (.call (.ref l) ⟨[.ref c], []⟩) (fun r s' => r = .ok (.ret (.bool true)) ∧ OldK s.heap s'.heap ∧ s'.os = s.os ∧ AllBare s'.gens) s := by
  have rv := vals_ints hi
  have fin : ∀ T : Hp, Lone P w K s c T → SqL K T c (ns.map V.int) → _ := fun T L q => L.run F (L.env KX g1 g2 g3 g4 g5 hc) hr (bi s (.ref c)) (pr T q)
  cases hk : K.lookup c with
  | some o =>
    have e := KX c o hk
    rw [hc] at e
    cases e
    refine fin (fun _ => none) ⟨fun _ => .inl rfl, fun b u z => (nomatch z), fun b z => absurd rfl z, fun z => absurd rfl z⟩ (.inr ⟨_, us.toArray, _, hk, rfl, rfl, rfl, ?_, by simpa using rv⟩)
    rw [List.size_toArray, hi.length]; exact hz
  | none =>
    let T : Hp := fun b => if b = c then some (.frz { cls := .type "list", data := .seq us.toArray } (.lst (ns.map V.int))) else none
    have Tc : T c = some (.frz { cls := .type "list", data := .seq us.toArray } (.lst (ns.map V.int))) := if_pos rfl
    have Tn : ∀ b, b ≠ c → T b = none := fun b hb => if_neg hb
    refine fin T ⟨fun b => ?_, fun b u z => ?_, fun b z => ?_, fun _ => hk⟩ (.inl (.inr ⟨_, Tc⟩))
    · by_cases hb : b = c
      · rw [hb]; exact .inr ⟨_, _, Tc⟩
      · exact .inl (Tn b hb)
    · by_cases hb : b = c
      · rw [hb, Tc] at z
        cases z
        rw [hb]
        exact ⟨hc, by rw [List.length_map]; exact hz, us, _, rv, hc⟩
      · rw [Tn b hb] at z; cases z
    · by_cases hb : b = c
      · exact hb
      · exact absurd (Tn b hb) z
end
end DL
set_option maxRecDepth 100000
set_option maxHeartbeats 4000000
namespace L47
open PySem PySem.Spec PyProof.Rows L2 DL R
theorem law_promise {K : PySem.W.Frag} {C : Addr} {T : Hp} {a : Addr} {ns : List Int} (hS : SqL K T a (ns.map V.int)) (h63 : ns.length ≤ 63) (hb : ∀ n ∈ ns, Builtin.Int.intBits n ≤ 1048576) : spOf K 1 (sd_law C) [.ref a] T (fun v _ => v = .bl true) fun _ _ _ => False :=
  ⟨[.lsf (ns.map D.int)], fun _ => none, fun d _ => d = .bl true, fun _ _ _ _ => False, T, rfl, .cons (.lsf hS (dn_ints ns)) .nil, ⟨Ext.refl T, fun c x e => nomatch e⟩, ⟨ns, rfl, h63, hb, fun _ => rfl⟩,
    fun v d _ _ _ _ _ r e => by subst e; exact r.inv_bl, fun _ _ _ _ _ _ _ _ _ _ z => z⟩
end L47
open PySem PySem.W PySem.Calls PyProof.Rows
theorem PySem.Challenge.cw_ringshares_k47_ring_wishes_tried_holds : PySem.Challenge.rw_ringshares_k47_ring_wishes_tried.Holds := by
  w_on; o_law
  refine HandSHeadRun.head_any (r := OpenLaw.row PySem.Challenge.rw_ringshares_k47_ring_wishes_tried) (q := view (OpenLaw.row PySem.Challenge.rw_ringshares_k47_ring_wishes_tried).prog [85]) (H := L47.hkA) (ob := L47.obA) (M := 9000) (loose := L47.nmA) (d := HandSHeadRun.topDef (OpenLaw.row PySem.Challenge.rw_ringshares_k47_ring_wishes_tried).prog 85) (kwd := []) L47.obA_eq
    (by kernel_rfl) (fun s => by kernel_rfl) L47.runA (by kernel_rfl) (by kernel_rfl) (by kernel_rfl) (by rfl) (by first | assumption | decide +kernel) (by decide +kernel) ⟨rfl, rfl, rfl, rfl, rfl, by decide +kernel⟩ ?hw ?hc
  case hw => w_witness2
  case hc =>
    refine Att.attach_callB (l := PySem.Challenge.rw_ringshares_k47_ring_wishes_tried) (n := 63) rfl (by kernel_rfl) fun w s₀ s₁ mg mb fa o pm cd doc a vs ns G Y ho hd hcd hmg hobj hints hlen hbits hg => ?_
    obtain ⟨K, KX, c⟩ := Y
    obtain ⟨fd, hbnd, F⟩ := L47.facts (P := (PySem.Challenge.rw_ringshares_k47_ring_wishes_tried).prog) KX G.T.g c
    have e1 : (HandSHeadRun.topDef (OpenLaw.row PySem.Challenge.rw_ringshares_k47_ring_wishes_tried).prog 85).name = ("law" : PySem.Str) := by kernel_rfl
    rw [e1] at hmg
    have e2 := hmg.symm.trans (He.glo_ok KX G.T.g (c.fact 51 (f := .glo "law") rfl))
    cases e2
    exact DL.end_G KX G.T.g G.T.b G.T.builtins G.T.nolimit hg hobj hints (Nat.le_trans hlen (by decide)) ⟨rfl, by decide, by decide⟩ F hbnd fun T hS => L47.law_promise hS hlen hbits
