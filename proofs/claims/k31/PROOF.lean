import PyProof.Rows.All
import Wide.All
import OpenK.AllK
import Wide.FinOn
import PySem.Challenge.RW_ringshares_k31_whole_keepers_and_pending
import PyProof.EqAt
import PyProof.EqKinds
import PyProof.TupleCall
import PyProof.ReprReads
import HandS.Base
import HandS.Call
import HandS.List
import HandS.Comp
import HandS.Ends
import HandS.Exc
import HandS.Words
import HandS.TupAny
import HandS.Style
import HandS.NoneIn
import HandS.Iter
import HandS.Text
import HandS.CallSlots
import HandS.Defaults
import HandS.WordsExc
import HandS.Dict
import HandS.SortInts
import HandS.Property
import HandS.MakeKw
import HandS.IsInst
import HandS.Zip
import HandS.OwnEq
import HandS.SortRule
import OpenK.KMeth
import KE.GoesMore
import KE.GoesEnum
import HandS.SortOrd
import HandS.MakeKwOnly
import HandS.ClsMeth
import HandS.DictComp
import HandS.CallLocal
import HandS.TryOnly
import HandS.More
import HandS.FStr
import KE.KCallOwn
import PyProof.Conv_bool
import KE.KRevSl
import HandS.Wide
import HandS.Deep
import HandS.Conv
import HandS.SortKw
import HandS.Rev
import HandS.SetFor
import HandS.Strs
import KE.KDictZip
import HandS.TupSets
import PyProof.Rows.CountFlat
import KE.KSortTupAny
import HandS.TupLe
import PyProof.P3In
import PyProof.FactsAll.list_2
import PyProof.FactsAll.list_1
import PyProof.FactsAll.tuple_2
import PyProof.FactsAll.tuple_1
import PyProof.FactsAll.dict_1
import PyProof.FactsAll.dict_2
import PyProof.FactsAll.int_1
import PyProof.FactsAll.int_3
import PyProof.FactsAll.bool_1
import PyProof.FactsAll.bool_2
import PyProof.FactsAll.str_1
import PyProof.FactsAll.str_2
import PyProof.FactsAll.NoneType_1
import KE.DataMinMax
import KE.SortData
import PyProof.Rows.RowBridgeK
import KE.KDictPairs
import HandS.ExcOwn
import HandS.Head0
import HandS.Head1
import HandS.Head2
import HandS.HeadEnd
import HandS.HeadHook1
import HandS.HeadHook2
import HandS.HeadHook3
import HandS.HeadHook4
import HandS.EndBits
import KE.KStateDown
import Wide.Once
import HandS.HeadNt
set_option Elab.async false
set_option linter.all false
namespace DL
end DL
namespace R
end R
set_option maxRecDepth 100000
set_option maxHeartbeats 4000000
namespace DLH
open PySem PySem.W PySem.Calls PyProof.Rows He He5
def obsR (fa : List Fa) (fn : List DefA) (ex : Frag → Bool) (K : Frag) : AlD := (((fa.all fun f => f.ok K) && fn.all fun d => d.ok K) && ex K, fn.map fun d => He5.fnA K (d.at_ K))
def valR (fn : List DefA) : AlD := (true, fn.map DefA.val)
def SaysR (fa : List Fa) (fn : List DefA) (ex : Frag → Bool) (K : Frag) : Prop := obsR fa fn ex K = valR fn
section
variable {fa : List Fa} {fn : List DefA} {ex : Frag → Bool} {K : Frag}
theorem SaysR.fact (c : SaysR fa fn ex K) (i : Nat) {f : Fa} (h : fa[i]? = some f := by rfl) : f.ok K = true := by
  have c0 := (ba (show (((fa.all fun f => f.ok K) && fn.all fun d => d.ok K) && ex K) = true from congrArg (fun z : AlD => z.1) c)).1
  exact List.all_eq_true.mp (ba c0).1 f (List.mem_of_getElem? h)
theorem SaysR.more (c : SaysR fa fn ex K) : ex K = true := (ba (show (((fa.all fun f => f.ok K) && fn.all fun d => d.ok K) && ex K) = true from congrArg (fun z : AlD => z.1) c)).2
theorem SaysR.def_ (c : SaysR fa fn ex K) (i : Nat) {d : DefA} (h : fn[i]? = some d := by rfl) : ∃ fd, L2.FunD K d.name d.qual d.params d.body d.scope (d.dvs K) (d.kws K) (d.at_ K) fd := by
  have c0 := (ba (show (((fa.all fun f => f.ok K) && fn.all fun d => d.ok K) && ex K) = true from congrArg (fun z : AlD => z.1) c)).1
  have e : fn.map (fun d => He5.fnA K (d.at_ K)) = fn.map DefA.val := congrArg (fun z : AlD => z.2) c
  have e2 : (fn.map fun d => He5.fnA K (d.at_ K))[i]? = (fn.map DefA.val)[i]? := by rw [e]
  rw [List.getElem?_map, List.getElem?_map, h] at e2
  exact DefA.funD (Option.some.inj e2) (List.all_eq_true.mp (ba c0).2 d (List.mem_of_getElem? h))
end
def atG (x : PySem.Str) (K : Frag) : Addr := ga K x
def atM (x m : PySem.Str) (K : Frag) : Addr := ma K (ga K x) m
/-- a property's getter -/
def atP (x m : PySem.Str) (K : Frag) : Addr := wf K (ga K x) "property" m
def propB (K : Frag) (x m : PySem.Str) : Bool := eqO (findIn K (.ref (ga K x)) m) (some (some (.ref (ma K (ga K x) m)))) && (eqO (specialIn K (.ref (ma K (ga K x) m)) "__get__") (some (some (.builtin "property.__get__"))) && (decide (takesIn K (.ref (ma K (ga K x) m)) = some true) && (match recIn K (ma K (ga K x) m) "property" with
    | some (.ref _ :: _) => true
    | _ => false)))
theorem propB_ok {K : Frag} {x m : PySem.Str} (h : propB K x m = true) : L2.PropOf K (ga K x) m (ma K (ga K x) m) (atP x m K) := by
  obtain ⟨h1, h⟩ := ba h
  obtain ⟨h2, h⟩ := ba h
  obtain ⟨h3, h4⟩ := ba h
  refine ⟨eqO_ok h1, eqO_ok h2, of_decide_eq_true h3, ?_⟩
  unfold atP wf
  split at h4
  · rename_i f r e
    exact ⟨r, by rw [e]⟩
  · cases h4
def isB (K : Frag) (x : PySem.Str) : Bool := eqO (findIn K (.ref (ga K x)) "__class__") (some (some (.builtin "object.__class__"))) && (eqO (specialIn K (.builtin "object.__class__") "__get__") (some (some (.builtin "getset_descriptor.__get__"))) && (decide (takesIn K (.builtin "object.__class__") = some true) && (decide (mroIn K (ga K x) (.type "object") = some true) &&
  ["NoneType", "bool", "int", "str", "list", "tuple", "dict"].all fun t => decide (kitOne K (.type t) (.ref (ga K x)) = some false))))
end DLH
set_option maxRecDepth 100000
set_option maxHeartbeats 4000000
namespace DLH
open PySem PySem.W PySem.Calls PyProof.Rows He He5
/-- the i-th row of the table x -/
def rowAt (x : PySem.Str) (i : Nat) (K : Frag) : Addr := match K.lookup (ga K x) with
  | some o => (match o.data with
    | .seq its _ => (match its[i]? with
      | some (.ref a) => a
      | _ => 0)
    | _ => 0)
  | none => 0
/-- at a stands a tuple of these -/
def rowB (K : Frag) (a : Addr) (vs : List Dv) : Bool := match K.lookup a with
  | some o => decide (o.cls = .type "tuple") && (match o.data with
    | .seq its _ => decide (its.size ≤ sizeLine) && relAll (vs.map (Dv.v K)) its.toList
    | _ => false)
  | none => false
theorem rowB_ok {K : Frag} {a : Addr} {vs : List Dv} (h : rowB K a vs = true) (H : L2.Hp) : L2.SqT K H a (vs.map (Dv.v K)) := by
  unfold rowB at h
  cases q : K.lookup a with
  | none => rw [q] at h; cases h
  | some o =>
    rw [q] at h
    obtain ⟨h1, h2⟩ := ba h
    obtain ⟨oc, od, dt, osl⟩ := o
    cases dt with
    | seq its n =>
      obtain ⟨h3, h4⟩ := ba (show (decide (its.size ≤ sizeLine) && relAll (vs.map (Dv.v K)) its.toList) = true from h2)
      exact .inr ⟨_, its, n, q, of_decide_eq_true h1, rfl, of_decide_eq_true h3, relAll_ok h4⟩
    | _ => cases h2
end DLH
set_option maxRecDepth 100000
set_option maxHeartbeats 4000000
namespace DLH
open PySem PySem.W PySem.Calls PyProof.Rows He He5
abbrev AlQ : Type := AlD × List (Option (List (Option (PySem.Str × Int))))
def valRT (fn : List DefA) (ts : List Tab) (w : World) : AlQ := (valR fn, ts.map fun t => some (keysIn w.params t.2))
def SaysQ (fa : List Fa) (fn : List DefA) (ex : Frag → Bool) (ts : List Tab) (w : World) (K : Frag) : Prop :=
  SaysR fa fn ex K ∧ (ts.map fun t => dicW K (t.1 K)) = ts.map fun t => some (keysIn w.params t.2)
theorem SaysQ.tab {fa : List Fa} {fn : List DefA} {ex : Frag → Bool} {ts : List Tab} {w : World} {K : Frag} (c : SaysQ fa fn ex ts w K) (i : Nat) {t : Tab} (h : ts[i]? = some t := by rfl) : ∃ es n, K.lookup (t.1 K) = some ⟨.type "dict", none, .dict es n, #[]⟩ ∧ PySem.W.KeysLit w.params es.toList := by
  have e2 : (ts.map fun t => dicW K (t.1 K))[i]? = (ts.map fun t => some (keysIn w.params t.2))[i]? := by rw [c.2]
  rw [List.getElem?_map, List.getElem?_map, h] at e2
  obtain ⟨es, n, q⟩ := dicW_ok (Option.some.inj e2)
  obtain ⟨q1, q2, _⟩ := q
  exact ⟨es, n, q1, q2⟩
/-- an entry that is a def of the module -/
theorem kd_of {K : Frag} {w : World} {a : Addr} {kvs : List (PySem.Str × Dv)} {es : Array DictEntry} {n : Nat} (h1 : K.lookup a = some ⟨.type "dict", none, .dict es n, #[]⟩) (h2 : PySem.W.KeysLit w.params es.toList) (h : valsB K a kvs = true) {z : PySem.Str} {v : Dv} (hz : (z, v) ∈ kvs) : L2.KDct K w a z (v.v K) := by
  obtain ⟨u, e1, e2⟩ := valsB_ok h hz
  exact ⟨es, n, u, h1, h2, e1, e2⟩
end DLH
set_option maxRecDepth 100000
set_option maxHeartbeats 4000000
namespace DLH
open PySem PySem.W PySem.Calls PyProof.Rows He He5
def obsRL (as : List Addr) (fa : List Fa) (fn : List DefA) (ex : Frag → Bool) (ts : List Tab) (g : Addr → Option Obj) : AlQ :=
  (obsR fa fn ex (frT g as), ts.map fun t => dicW (frT g as) (t.1 (frT g as)))
def hookL (as : List Addr) (fa : List Fa) (fn : List DefA) (ex : Frag → Bool) (ts : List Tab) : PySem.W.Hook where
  α := AlQ
  obs := fun s => obsRL as fa fn ex ts s.heap.get?
  val := fun w => valRT fn ts w
  says := fun w h => ∃ K : Frag, K.In h ∧ SaysQ fa fn ex ts w K
  of := fun _ _ e => ⟨_, frT_in, congrArg (fun z : AlQ => z.1) e, congrArg (fun z : AlQ => z.2) e⟩
  keeps := fun _ _ _ ⟨K, hK, c⟩ k => ⟨K, Frag.In.keeps hK k, c⟩
theorem obsRL_eq {as : List Addr} {fa : List Fa} {fn : List DefA} {ex : Frag → Bool} {ts : List Tab} {g : Addr → Option Obj} {s : Shared} (h : ∀ a, g a = s.heap.get? a) : obsRL as fa fn ex ts g = (hookL as fa fn ex ts).obs s := by
  have e : g = s.heap.get? := funext h
  rw [e] <;> rfl
end DLH
namespace L31
open PySem PySem.Spec PyProof.Rows L2
def top (i : Nat) : Stmt := PySem.Challenge.pw_ringshares_k31_whole_keepers_and_pending.main.body.getD i (.Pass ⟨0, 0, 0, 0⟩)
def clsB (s : Stmt) (i : Nat) : Stmt := match s with
  | .ClassDef _ _ _ b _ _ _ _ _ _ _ => b.getD i (.Pass ⟨0, 0, 0, 0⟩)
  | _ => .Pass ⟨0, 0, 0, 0⟩
abbrev s_purse : Stmt := top 70
abbrev s_draw : Stmt := top 71
abbrev s_walk : Stmt := top 73
abbrev s_is_ascending : Stmt := top 10
abbrev s_is_whole : Stmt := top 6
abbrev s_is_name : Stmt := top 9
abbrev s_is_word_of : Stmt := top 8
abbrev s_names : Stmt := top 79
abbrev s_taken : Stmt := top 78
abbrev s_check_ring : Stmt := top 50
abbrev s_Ring_names : Stmt := clsB (top 49) 9
abbrev s_is_form_of : Stmt := top 11
abbrev s_Ring_points : Stmt := clsB (top 49) 2
abbrev s_Ring_hosts : Stmt := clsB (top 49) 8
abbrev s_Ring_factor : Stmt := clsB (top 49) 3
abbrev s_Ring_spread : Stmt := clsB (top 49) 4
abbrev s_Ring__way : Stmt := clsB (top 49) 22
abbrev s_keepers : Stmt := top 74
abbrev s_is_from_to : Stmt := top 7
abbrev s_is_free_name : Stmt := top 40
abbrev s_marks : Stmt := top 75
abbrev s_pick : Stmt := top 72
abbrev s_changed : Stmt := top 80
abbrev s_are_free_marks : Stmt := top 39
abbrev s_ring : Stmt := top 76
abbrev s_later : Stmt := top 81
abbrev s_step : Stmt := top 82
abbrev s_Ring___contains__ : Stmt := clsB (top 49) 13
abbrev s_check_point : Stmt := top 43
abbrev s_new_racks_first : Stmt := top 45
abbrev s_Plan__state : Stmt := clsB (top 68) 14
abbrev s_is_next_host : Stmt := top 41
abbrev s_steps : Stmt := top 83
abbrev s_can_give : Stmt := top 53
abbrev s_is_known : Stmt := top 52
abbrev s_check_name : Stmt := top 44
abbrev s_behind_settle : Stmt := top 57
abbrev s_keepers_in : Stmt := top 46
abbrev s_Ring_walk : Stmt := clsB (top 49) 16
abbrev s_Plan_counting : Stmt := clsB (top 68) 8
abbrev s_check_hosts : Stmt := top 42
abbrev s_behind_copy : Stmt := top 56
abbrev s_behind_down : Stmt := top 58
abbrev s_behind_repair : Stmt := top 61
abbrev s_behind_up : Stmt := top 59
abbrev s_behind_wipe : Stmt := top 60
abbrev s_Ring_keepers : Stmt := clsB (top 49) 17
abbrev s_Ring___init__ : Stmt := clsB (top 49) 0
abbrev s_Plan_keepers : Stmt := clsB (top 68) 11
abbrev s_Plan_pendings : Stmt := clsB (top 68) 12
abbrev s_mint : Stmt := top 77
abbrev s_Ring__with_hosts : Stmt := clsB (top 49) 23
abbrev s_Ring_joined : Stmt := clsB (top 49) 18
abbrev s_Ring_left : Stmt := clsB (top 49) 19
abbrev s_behind_join : Stmt := top 54
abbrev s_behind_leave : Stmt := top 55
abbrev s_behind : Stmt := top 64
abbrev s_states_of : Stmt := top 65
abbrev s_Plan___init__ : Stmt := clsB (top 68) 0
abbrev s_right : Stmt := top 84
abbrev s_law : Stmt := top 85
end L31
set_option maxRecDepth 100000
set_option maxHeartbeats 0
namespace L31
open PySem PySem.Spec PyProof.Rows L2 DL R
def dd_purse : He5.DefA := ⟨DLH.atG "_law_purse", "_law_purse", "_law_purse", defArgs s_purse, defBody s_purse, defScope s_purse, [], []⟩
def dd_draw : He5.DefA := ⟨DLH.atG "_law_draw", "_law_draw", "_law_draw", defArgs s_draw, defBody s_draw, defScope s_draw, [], []⟩
def dd_walk : He5.DefA := ⟨DLH.atG "_law_walk", "_law_walk", "_law_walk", defArgs s_walk, defBody s_walk, defScope s_walk, [], []⟩
def dd_is_ascending : He5.DefA := ⟨DLH.atG "is_ascending", "is_ascending", "is_ascending", defArgs s_is_ascending, defBody s_is_ascending, defScope s_is_ascending, [], []⟩
def dd_is_whole : He5.DefA := ⟨DLH.atG "is_whole", "is_whole", "is_whole", defArgs s_is_whole, defBody s_is_whole, defScope s_is_whole, [], []⟩
def dd_is_name : He5.DefA := ⟨DLH.atG "is_name", "is_name", "is_name", defArgs s_is_name, defBody s_is_name, defScope s_is_name, [], []⟩
def dd_is_word_of : He5.DefA := ⟨DLH.atG "is_word_of", "is_word_of", "is_word_of", defArgs s_is_word_of, defBody s_is_word_of, defScope s_is_word_of, [], []⟩
def dd_names : He5.DefA := ⟨DLH.atG "_law_names", "_law_names", "_law_names", defArgs s_names, defBody s_names, defScope s_names, [], []⟩
def dd_taken : He5.DefA := ⟨DLH.atG "_law_taken", "_law_taken", "_law_taken", defArgs s_taken, defBody s_taken, defScope s_taken, [], []⟩
def dd_check_ring : He5.DefA := ⟨DLH.atG "check_ring", "check_ring", "check_ring", defArgs s_check_ring, defBody s_check_ring, defScope s_check_ring, [], []⟩
def dd_Ring_names : He5.DefA := ⟨DLH.atP "Ring" "names", "names", "Ring.names", defArgs s_Ring_names, defBody s_Ring_names, defScope s_Ring_names, [], []⟩
def dd_is_form_of : He5.DefA := ⟨DLH.atG "is_form_of", "is_form_of", "is_form_of", defArgs s_is_form_of, defBody s_is_form_of, defScope s_is_form_of, [], []⟩
def dd_Ring_points : He5.DefA := ⟨DLH.atP "Ring" "points", "points", "Ring.points", defArgs s_Ring_points, defBody s_Ring_points, defScope s_Ring_points, [], []⟩
def dd_Ring_hosts : He5.DefA := ⟨DLH.atP "Ring" "hosts", "hosts", "Ring.hosts", defArgs s_Ring_hosts, defBody s_Ring_hosts, defScope s_Ring_hosts, [], []⟩
def dd_Ring_factor : He5.DefA := ⟨DLH.atP "Ring" "factor", "factor", "Ring.factor", defArgs s_Ring_factor, defBody s_Ring_factor, defScope s_Ring_factor, [], []⟩
def dd_Ring_spread : He5.DefA := ⟨DLH.atP "Ring" "spread", "spread", "Ring.spread", defArgs s_Ring_spread, defBody s_Ring_spread, defScope s_Ring_spread, [], []⟩
def dd_Ring__way : He5.DefA := ⟨DLH.atM "Ring" "_way", "_way", "Ring._way", defArgs s_Ring__way, defBody s_Ring__way, defScope s_Ring__way, [], []⟩
def dd_keepers : He5.DefA := ⟨DLH.atG "_law_keepers", "_law_keepers", "_law_keepers", defArgs s_keepers, defBody s_keepers, defScope s_keepers, [], []⟩
def dd_is_from_to : He5.DefA := ⟨DLH.atG "is_from_to", "is_from_to", "is_from_to", defArgs s_is_from_to, defBody s_is_from_to, defScope s_is_from_to, [], []⟩
def dd_is_free_name : He5.DefA := ⟨DLH.atG "is_free_name", "is_free_name", "is_free_name", defArgs s_is_free_name, defBody s_is_free_name, defScope s_is_free_name, [], []⟩
def dd_marks : He5.DefA := ⟨DLH.atG "_law_marks", "_law_marks", "_law_marks", defArgs s_marks, defBody s_marks, defScope s_marks, [], []⟩
def dd_pick : He5.DefA := ⟨DLH.atG "_law_pick", "_law_pick", "_law_pick", defArgs s_pick, defBody s_pick, defScope s_pick, [], []⟩
def dd_changed : He5.DefA := ⟨DLH.atG "_law_changed", "_law_changed", "_law_changed", defArgs s_changed, defBody s_changed, defScope s_changed, [], []⟩
def dd_are_free_marks : He5.DefA := ⟨DLH.atG "are_free_marks", "are_free_marks", "are_free_marks", defArgs s_are_free_marks, defBody s_are_free_marks, defScope s_are_free_marks, [], []⟩
def dd_ring : He5.DefA := ⟨DLH.atG "_law_ring", "_law_ring", "_law_ring", defArgs s_ring, defBody s_ring, defScope s_ring, [], []⟩
def dd_later : He5.DefA := ⟨DLH.atG "_law_later", "_law_later", "_law_later", defArgs s_later, defBody s_later, defScope s_later, [], []⟩
def dd_step : He5.DefA := ⟨DLH.atG "_law_step", "_law_step", "_law_step", defArgs s_step, defBody s_step, defScope s_step, [], []⟩
def dd_Ring___contains__ : He5.DefA := ⟨DLH.atM "Ring" "__contains__", "__contains__", "Ring.__contains__", defArgs s_Ring___contains__, defBody s_Ring___contains__, defScope s_Ring___contains__, [], []⟩
def dd_check_point : He5.DefA := ⟨DLH.atG "check_point", "check_point", "check_point", defArgs s_check_point, defBody s_check_point, defScope s_check_point, [], []⟩
def dd_new_racks_first : He5.DefA := ⟨DLH.atG "new_racks_first", "new_racks_first", "new_racks_first", defArgs s_new_racks_first, defBody s_new_racks_first, defScope s_new_racks_first, [], []⟩
def dd_Plan__state : He5.DefA := ⟨DLH.atM "Plan" "_state", "_state", "Plan._state", defArgs s_Plan__state, defBody s_Plan__state, defScope s_Plan__state, [], []⟩
def dd_is_next_host : He5.DefA := ⟨DLH.atG "is_next_host", "is_next_host", "is_next_host", defArgs s_is_next_host, defBody s_is_next_host, defScope s_is_next_host, [], []⟩
def dd_steps : He5.DefA := ⟨DLH.atG "_law_steps", "_law_steps", "_law_steps", defArgs s_steps, defBody s_steps, defScope s_steps, [], []⟩
def dd_can_give : He5.DefA := ⟨DLH.atG "can_give", "can_give", "can_give", defArgs s_can_give, defBody s_can_give, defScope s_can_give, [], []⟩
def dd_is_known : He5.DefA := ⟨DLH.atG "is_known", "is_known", "is_known", defArgs s_is_known, defBody s_is_known, defScope s_is_known, [], []⟩
def dd_check_name : He5.DefA := ⟨DLH.atG "check_name", "check_name", "check_name", defArgs s_check_name, defBody s_check_name, defScope s_check_name, [], []⟩
def dd_behind_settle : He5.DefA := ⟨DLH.atG "behind_settle", "behind_settle", "behind_settle", defArgs s_behind_settle, defBody s_behind_settle, defScope s_behind_settle, [], []⟩
def dd_keepers_in : He5.DefA := ⟨DLH.atG "keepers_in", "keepers_in", "keepers_in", defArgs s_keepers_in, defBody s_keepers_in, defScope s_keepers_in, [], []⟩
def dd_Ring_walk : He5.DefA := ⟨DLH.atM "Ring" "walk", "walk", "Ring.walk", defArgs s_Ring_walk, defBody s_Ring_walk, defScope s_Ring_walk, [], []⟩
def dd_Plan_counting : He5.DefA := ⟨DLH.atM "Plan" "counting", "counting", "Plan.counting", defArgs s_Plan_counting, defBody s_Plan_counting, defScope s_Plan_counting, [], []⟩
def dd_check_hosts : He5.DefA := ⟨DLH.atG "check_hosts", "check_hosts", "check_hosts", defArgs s_check_hosts, defBody s_check_hosts, defScope s_check_hosts, [], []⟩
def dd_behind_copy : He5.DefA := ⟨DLH.atG "behind_copy", "behind_copy", "behind_copy", defArgs s_behind_copy, defBody s_behind_copy, defScope s_behind_copy, [], []⟩
def dd_behind_down : He5.DefA := ⟨DLH.atG "behind_down", "behind_down", "behind_down", defArgs s_behind_down, defBody s_behind_down, defScope s_behind_down, [], []⟩
def dd_behind_repair : He5.DefA := ⟨DLH.atG "behind_repair", "behind_repair", "behind_repair", defArgs s_behind_repair, defBody s_behind_repair, defScope s_behind_repair, [], []⟩
def dd_behind_up : He5.DefA := ⟨DLH.atG "behind_up", "behind_up", "behind_up", defArgs s_behind_up, defBody s_behind_up, defScope s_behind_up, [], []⟩
def dd_behind_wipe : He5.DefA := ⟨DLH.atG "behind_wipe", "behind_wipe", "behind_wipe", defArgs s_behind_wipe, defBody s_behind_wipe, defScope s_behind_wipe, [], []⟩
def dd_Ring_keepers : He5.DefA := ⟨DLH.atM "Ring" "keepers", "keepers", "Ring.keepers", defArgs s_Ring_keepers, defBody s_Ring_keepers, defScope s_Ring_keepers, [], []⟩
def dd_Ring___init__ : He5.DefA := ⟨DLH.atM "Ring" "__init__", "__init__", "Ring.__init__", defArgs s_Ring___init__, defBody s_Ring___init__, defScope s_Ring___init__, [], []⟩
def dd_Plan_keepers : He5.DefA := ⟨DLH.atM "Plan" "keepers", "keepers", "Plan.keepers", defArgs s_Plan_keepers, defBody s_Plan_keepers, defScope s_Plan_keepers, [], []⟩
def dd_Plan_pendings : He5.DefA := ⟨DLH.atM "Plan" "pendings", "pendings", "Plan.pendings", defArgs s_Plan_pendings, defBody s_Plan_pendings, defScope s_Plan_pendings, [], []⟩
def dd_mint : He5.DefA := ⟨DLH.atG "_law_made", "_law_made", "_law_made", defArgs s_mint, defBody s_mint, defScope s_mint, [], []⟩
def dd_Ring__with_hosts : He5.DefA := ⟨DLH.atM "Ring" "_with_hosts", "_with_hosts", "Ring._with_hosts", defArgs s_Ring__with_hosts, defBody s_Ring__with_hosts, defScope s_Ring__with_hosts, [], []⟩
def dd_Ring_joined : He5.DefA := ⟨DLH.atM "Ring" "joined", "joined", "Ring.joined", defArgs s_Ring_joined, defBody s_Ring_joined, defScope s_Ring_joined, [], []⟩
def dd_Ring_left : He5.DefA := ⟨DLH.atM "Ring" "left", "left", "Ring.left", defArgs s_Ring_left, defBody s_Ring_left, defScope s_Ring_left, [], []⟩
def dd_behind_join : He5.DefA := ⟨DLH.atG "behind_join", "behind_join", "behind_join", defArgs s_behind_join, defBody s_behind_join, defScope s_behind_join, [], []⟩
def dd_behind_leave : He5.DefA := ⟨DLH.atG "behind_leave", "behind_leave", "behind_leave", defArgs s_behind_leave, defBody s_behind_leave, defScope s_behind_leave, [], []⟩
def dd_behind : He5.DefA := ⟨DLH.atG "behind", "behind", "behind", defArgs s_behind, defBody s_behind, defScope s_behind, [], []⟩
def dd_states_of : He5.DefA := ⟨DLH.atG "states_of", "states_of", "states_of", defArgs s_states_of, defBody s_states_of, defScope s_states_of, [], []⟩
def dd_Plan___init__ : He5.DefA := ⟨DLH.atM "Plan" "__init__", "__init__", "Plan.__init__", defArgs s_Plan___init__, defBody s_Plan___init__, defScope s_Plan___init__, [.adr fun K => He.dflAt ("Plan", some "__init__") 0 K], []⟩
def dd_right : He5.DefA := ⟨DLH.atG "_law_right", "_law_right", "_law_right", defArgs s_right, defBody s_right, defScope s_right, [], []⟩
def dd_law : He5.DefA := ⟨DLH.atG "law", "law", "law", defArgs s_law, defBody s_law, defScope s_law, [], []⟩
def fnA : List He5.DefA := [dd_purse, dd_draw, dd_walk, dd_is_ascending, dd_is_whole, dd_is_name, dd_is_word_of, dd_names, dd_taken, dd_check_ring, dd_Ring_names, dd_is_form_of, dd_Ring_points, dd_Ring_hosts, dd_Ring_factor, dd_Ring_spread, dd_Ring__way, dd_keepers, dd_is_from_to, dd_is_free_name, dd_marks, dd_pick, dd_changed, dd_are_free_marks, dd_ring, dd_later, dd_step, dd_Ring___contains__, dd_check_point, dd_new_racks_first, dd_Plan__state, dd_is_next_host, dd_steps, dd_can_give, dd_is_known, dd_check_name, dd_behind_settle, dd_keepers_in, dd_Ring_walk, dd_Plan_counting, dd_check_hosts, dd_behind_copy, dd_behind_down, dd_behind_repair, dd_behind_up, dd_behind_wipe, dd_Ring_keepers, dd_Ring___init__, dd_Plan_keepers, dd_Plan_pendings, dd_mint, dd_Ring__with_hosts, dd_Ring_joined, dd_Ring_left, dd_behind_join, dd_behind_leave, dd_behind, dd_states_of, dd_Plan___init__, dd_right, dd_law]
def faA0 : List He.Fa := [.glo "_law_purse", .glo "_law_draw", .glo "_law_walk", .glo "is_ascending", .glo "is_whole", .glo "is_name", .glo "is_word_of", .glo "_law_names", .glo "_law_taken", .glo "check_ring", .glo "is_form_of", .meth "Ring" "_way", .glo "_law_keepers", .glo "is_from_to", .glo "is_free_name", .glo "_law_marks", .glo "_law_pick", .glo "_law_changed", .glo "are_free_marks", .glo "_law_ring", .glo "_law_later", .glo "_law_step", .meth "Ring" "__contains__", .glo "check_point", .glo "new_racks_first", .meth "Plan" "_state", .glo "is_next_host", .glo "_law_steps", .glo "can_give", .glo "is_known"]
def faA1 : List He.Fa := [.glo "check_name", .glo "behind_settle", .glo "keepers_in", .meth "Ring" "walk", .meth "Plan" "counting", .glo "check_hosts", .glo "behind_copy", .glo "behind_down", .glo "behind_repair", .glo "behind_up", .glo "behind_wipe", .meth "Ring" "keepers", .meth "Ring" "__init__", .meth "Plan" "keepers", .meth "Plan" "pendings", .glo "_law_made", .meth "Ring" "_with_hosts", .meth "Ring" "joined", .meth "Ring" "left", .glo "behind_join", .glo "behind_leave", .glo "behind", .glo "states_of", .meth "Plan" "__init__", .glo "_law_right", .glo "law", .glo "Ring", .cls "Ring", .mkr "Ring", .glo "Plan"]
def faA2 : List He.Fa := [.cls "Plan", .mkr "Plan", .glo "ACTIONS", .glo "SPREADS", .glo "PENDINGS", .noat "Ring" "_points", .noat "Ring" "_factor", .noat "Ring" "_spread", .noat "Ring" "_write", .noat "Ring" "_read_number", .noat "Ring" "_pending", .noat "Ring" "_hosts", .noat "Ring" "__bool__", .noat "Plan" "_states", .noat "Plan" "_ring", .noat "Plan" "_steps", .free "abs", .free "all", .free "any", .free "bool", .free "dict", .free "divmod", .free "enumerate", .free "int", .free "isinstance", .free "len", .free "list", .free "max", .free "min", .free "range"]
def faA3 : List He.Fa := [.free "repr", .free "sorted", .free "str", .free "tuple", .free "zip", .str "DIGITS" "0123456789", .str "LETTERS" "abcdefghijklmnopqrstuvwxyz", .int "MOST_FACTOR" 5, .int "MOST_HOSTS" 12, .int "MOST_MARKS" 16, .int "MOST_POINTS" 1000000000000000000, .int "MOST_SIGNS" 8, .int "MOST_STEPS" 24, .glo "FORMS"]
def faA : List He.Fa := faA0 ++ faA1 ++ faA2 ++ faA3
def exA (K : PySem.W.Frag) : Bool := He.tupB K "SPREADS" [.str "hosts", .str "racks"] && (He.tupB K "PENDINGS" [.str "plain", .str "with"] && (DLH.propB K "Ring" "names" && (DLH.propB K "Ring" "points" && (DLH.propB K "Ring" "hosts" && (DLH.propB K "Ring" "factor" && (DLH.propB K "Ring" "spread" && (DLH.rowB K (He.ga K "FORMS") [.adr (DLH.rowAt "FORMS" 0), .adr (DLH.rowAt "FORMS" 1), .adr (DLH.rowAt "FORMS" 2), .adr (DLH.rowAt "FORMS" 3), .adr (DLH.rowAt "FORMS" 4), .adr (DLH.rowAt "FORMS" 5), .adr (DLH.rowAt "FORMS" 6), .adr (DLH.rowAt "FORMS" 7)] && (DLH.rowB K (DLH.rowAt "FORMS" 0 K) [.str "join", .int 4] && (DLH.rowB K (DLH.rowAt "FORMS" 1 K) [.str "leave", .int 2] && (DLH.rowB K (DLH.rowAt "FORMS" 2 K) [.str "copy", .int 3] && (DLH.rowB K (DLH.rowAt "FORMS" 3 K) [.str "settle", .int 1] && (DLH.rowB K (DLH.rowAt "FORMS" 4 K) [.str "down", .int 2] && (DLH.rowB K (DLH.rowAt "FORMS" 5 K) [.str "up", .int 2] && (DLH.rowB K (DLH.rowAt "FORMS" 6 K) [.str "wipe", .int 2] && (DLH.rowB K (DLH.rowAt "FORMS" 7 K) [.str "repair", .int 3] && (DLH.isB K "Ring" && (He.valsB K (He.ga K "ACTIONS") [("join", .adr (DLH.atG "behind_join")), ("leave", .adr (DLH.atG "behind_leave")), ("copy", .adr (DLH.atG "behind_copy")), ("settle", .adr (DLH.atG "behind_settle")), ("down", .adr (DLH.atG "behind_down")), ("up", .adr (DLH.atG "behind_up")), ("wipe", .adr (DLH.atG "behind_wipe")), ("repair", .adr (DLH.atG "behind_repair"))])))))))))))))))))
def nmA0 : List PySem.Str := ["_wall", "__name__", "LETTERS", "DIGITS", "MOST_SIGNS", "MOST_DIGITS", "is_whole", "is_from_to", "is_word_of", "is_name", "is_ascending", "is_form_of", "is_written_number", "written_number", "BadValue", "InvalidText", "InvalidNumber", "InvalidSpread", "InvalidPending", "InvalidPoint", "InvalidName", "InvalidMarks", "InvalidMoment", "NotARing", "InvalidHosts", "InvalidSteps", "BadName", "UnknownName", "NoAnswer", "NoRoom"]
def nmA1 : List PySem.Str := ["MOST_POINTS", "MOST_FACTOR", "MOST_HOSTS", "MOST_MARKS", "MOST_STEPS", "SPREADS", "PENDINGS", "are_free_marks", "is_free_name", "is_next_host", "check_hosts", "check_point", "check_name", "new_racks_first", "keepers_in", "host_row", "written_host", "Ring", "check_ring", "is_known", "can_give", "behind_join", "behind_leave", "behind_copy", "behind_settle", "behind_down", "behind_up", "behind_wipe", "behind_repair", "FORMS"]
def nmA2 : List PySem.Str := ["ACTIONS", "behind", "states_of", "step_row", "written_step", "Plan", "_law_purse", "_law_draw", "_law_pick", "_law_walk", "_law_keepers", "_law_marks", "_law_ring", "_law_made", "_law_taken", "_law_names", "_law_changed", "_law_later", "_law_step", "_law_steps", "_law_right"]
def nmA : List PySem.Str := nmA0 ++ nmA1 ++ nmA2
abbrev RR : PySem.W.OpenRow := PySem.W.OpenLaw.row PySem.Challenge.rw_ringshares_k31_whole_keepers_and_pending
def tsA : List He.Tab := [(fun K => He.ga K "ACTIONS", ["join", "leave", "copy", "settle", "down", "up", "wipe", "repair"])]
def asL : List PySem.Addr := [0, 2, 3, 4, 6, 15, 16, 17, 18, 19, 20, 21, 22, 23, 24, 25, 26, 27, 28, 29, 30, 31, 32, 33, 34, 35, 36, 37, 38, 39, 40, 41, 42, 43, 44, 45, 46, 47, 48, 49, 50, 51, 52, 53, 54, 55, 56, 57, 58, 59, 60, 61, 62, 63, 64, 65, 66, 67, 68, 69, 70, 71, 79, 80, 81, 82, 97, 98, 99, 100, 101, 116, 117, 118, 119, 120, 135, 136, 137, 138, 139, 154, 155, 156, 157, 158, 173, 174, 175, 176, 177, 192, 193, 194, 195, 196, 211, 212, 213, 214, 215, 230, 231, 232, 233, 234, 249, 250, 251, 252, 253, 268, 269, 270, 271, 272, 287, 288, 289, 290, 291, 301, 302, 303, 304, 319, 320, 321, 322, 323, 333, 334, 335, 336, 351, 352, 353, 354, 355, 358, 359, 360, 361, 362, 363, 364, 365, 366, 367, 368, 369, 370, 371, 372, 373, 374, 375, 376, 377, 378, 379, 380, 381, 382, 383, 384, 385, 386, 387, 388, 389, 390, 391, 392, 393, 394, 395, 396, 397, 398, 399, 400, 401, 402, 403, 404, 405, 406, 407, 408, 409, 410, 411, 412, 413, 414, 415, 416, 417, 418, 419, 432, 433, 437, 438, 439, 440, 447, 448, 449, 455, 456, 457, 463, 464, 465, 471, 472, 473, 479, 480, 481, 487, 488, 489, 495, 496, 497, 501, 502, 503, 509, 510, 516, 517, 523, 524, 530, 531, 535, 536, 542, 543, 547, 548, 554, 555, 561, 562, 566, 567, 573, 574, 580, 581, 585, 586, 592, 593, 594, 595, 596, 597, 598, 601, 602, 603, 604, 605, 606, 607, 608, 609, 610, 611, 612, 613, 614, 615, 616, 617, 618, 619, 620, 621, 622, 623, 624, 625, 626, 627, 628, 629, 630, 631, 632, 633, 634, 635, 636, 637, 638, 639, 640, 641, 642, 643, 644, 645, 646, 647, 648, 649, 650, 651, 652, 653, 654, 655, 656, 657, 658, 659, 660, 661, 662, 663, 664, 665, 666, 667, 668, 669, 670, 671, 672, 673, 674, 675, 676, 677, 678, 679, 680, 681, 682, 683, 684, 685, 686, 687, 688, 689, 690, 691, 692, 693, 694, 695, 696, 697, 698, 699, 700, 701, 702, 703, 704, 705, 706, 707, 716, 722, 723, 727, 728, 729, 730, 737, 738, 739, 745, 746, 747, 753, 754, 760, 761, 765, 766, 772, 773, 779, 780, 786, 787, 793, 794, 800, 801, 805, 806, 812, 813, 819, 820, 821, 822, 823, 824, 825, 828, 829, 830, 831, 832, 833, 834, 835, 836, 837, 838, 839, 840, 841, 842, 843, 844, 845, 846, 847, 848, 849, 850, 851, 852, 853, 854, 855, 856, 857, 858, 859, 860, 861, 862, 863, 864, 865, 866, 867, 868, 869, 870, 871, 872, 873, 874, 875, 876, 877, 878, 879, 880, 881, 882, 883, 884, 885, 886, 887, 888, 889, 890, 891, 892, 893, 894, 895, 896, 897, 898, 899, 900, 901, 902, 903, 904, 905, 906, 907, 908, 909, 910, 911, 912, 913, 914, 915, 916, 917, 918, 919, 920, 921, 922, 923]
abbrev hkA : PySem.W.Hook := DLH.hookL asL faA fnA exA tsA
def obA (s : PySem.W.SharedT) : DLH.AlQ := DLH.obsRL asL faA fnA exA tsA (HandSHeadRun.getT s)
theorem obA_eq (s : PySem.W.SharedT) : obA s = hkA.obs s.abs := DLH.obsRL_eq (HandSHeadRun.getT_eq s)
theorem runA_f (w : World) : HandSHeadRun.RunEq RR (PySem.W.view RR.prog [85]) hkA obA 9000 nmA (w.withFollow "special-get-raises" false) := by
  intro os
  kernel_rfl
theorem runA_t (w : World) : HandSHeadRun.RunEq RR (PySem.W.view RR.prog [85]) hkA obA 9000 nmA (w.withFollow "special-get-raises" true) := by
  intro os
  kernel_rfl
theorem runA (w : World) : HandSHeadRun.RunEq RR (PySem.W.view RR.prog [85]) hkA obA 9000 nmA w := PySem.W.byRow2 "special-get-raises" (P := fun w => HandSHeadRun.RunEq RR (PySem.W.view RR.prog [85]) hkA obA 9000 nmA w) runA_f runA_t w
end L31
set_option maxRecDepth 100000
set_option maxHeartbeats 4000000
namespace DL
open PySem PySem.Spec PyProof.Rows L2
inductive D where
  | non | bl (b : Bool) | int (i : Int) | str (x : Str) | ty (n : String)
  | lst (xs : List D) | tup (xs : List D) | lsf (xs : List D)
  | dic (ks : List Key) (vs : List D)
  | ins (C : Addr) (fs : List Str) (vs : List D)
  | cel (a : Addr)
mutual
inductive Dn (K : PySem.W.Frag) (H : Hp) : V → D → Prop
  | non : Dn K H .non .non
  | bl (b : Bool) : Dn K H (.bl b) (.bl b)
  | int (i : Int) : Dn K H (.int i) (.int i)
  | str (x : Str) : Dn K H (.str x) (.str x)
  | ty (n : String) : Dn K H (.ty n) (.ty n)
  | cel (a : Addr) : Dn K H (.ref a) (.cel a)
  | lst {a : Addr} {vs : List V} {ds : List D} : H a = some (.lst vs) → DnL K H vs ds → Dn K H (.ref a) (.lst ds)
  | lsf {a : Addr} {vs : List V} {ds : List D} : SqL K H a vs → DnL K H vs ds → Dn K H (.ref a) (.lsf ds)
  | tup {a : Addr} {vs : List V} {ds : List D} : SqT K H a vs → DnL K H vs ds → Dn K H (.ref a) (.tup ds)
  | dic {a : Addr} {kvs : List (Key × V)} {ds : List D} : H a = some (.dK kvs) → DnL K H (kvs.map (·.2)) ds → Dn K H (.ref a) (.dic (kvs.map (·.1)) ds)
  | ins {a C dx : Addr} {fs : List (Str × V)} {ds : List D} : H a = some (.ins C dx fs) → DnL K H (fs.map (·.2)) ds → Dn K H (.ref a) (.ins C (fs.map (·.1)) ds)
inductive DnL (K : PySem.W.Frag) (H : Hp) : List V → List D → Prop
  | nil : DnL K H [] []
  | cons {v : V} {vs : List V} {d : D} {ds : List D} : Dn K H v d → DnL K H vs ds → DnL K H (v :: vs) (d :: ds)
end
/-- H' knows all that H knows -/
def Ext (H H' : Hp) : Prop := ∀ a o, H a = some o → H' a = some o
theorem Ext.refl (H : Hp) : Ext H H := fun _ _ h => h
theorem Ext.trans {H H1 H2 : Hp} (a : Ext H H1) (b : Ext H1 H2) : Ext H H2 := fun x o h => b x o (a x o h)
theorem Ext.fresh {H H' : Hp} {p : Addr} (e : Ext H H') (h : H' p = none) : H p = none := by
  cases q : H p with
  | none => rfl
  | some o => rw [e p o q] at h; cases h
theorem Ext.add {H : Hp} {p : Addr} {o : HO} (h : H p = none) : Ext H (upd H p o) := fun a u e => by
  rw [upd_ne (ne_of_none e h)]; exact e
theorem Ext.both {H H' : Hp} {p : Addr} {o : HO} (e : Ext H H') : Ext (upd H p o) (upd H' p o) := fun a u h => by
  by_cases q : a = p
  · subst q; rw [upd_same] at h ⊢; exact h
  · rw [upd_ne q] at h ⊢; exact e a u h
theorem Ext.off {H H' : Hp} {p : Addr} {o : HO} (e : Ext H H') (h : H p = none) : Ext H (upd H' p o) := fun a u ha => by
  rw [upd_ne (ne_of_none ha h)]; exact e a u ha
theorem Ext.rd {H H' : Hp} {a : Addr} {u : HO} (e : Ext H H') (h : Rd H a u) : Rd H' a u :=
  h.elim (fun z => .inl (e a _ z)) fun ⟨o, z⟩ => .inr ⟨o, e a _ z⟩
theorem Ext.sqL {K : PySem.W.Frag} {H H' : Hp} {a : Addr} {xs : List V} (e : Ext H H') (h : SqL K H a xs) : SqL K H' a xs := h.elim (fun z => .inl (e.rd z)) .inr
theorem Ext.sqT {K : PySem.W.Frag} {H H' : Hp} {a : Addr} {xs : List V} (e : Ext H H') (h : SqT K H a xs) : SqT K H' a xs := h.elim (fun z => .inl (e.rd z)) .inr
mutual
theorem Dn.mono {K : PySem.W.Frag} {H H' : Hp} (e : Ext H H') : ∀ {v : V} {d : D}, Dn K H v d → Dn K H' v d
  | _, _, .non => .non
  | _, _, .bl b => .bl b
  | _, _, .int b => .int b
  | _, _, .str b => .str b
  | _, _, .ty b => .ty b
  | _, _, .cel b => .cel b
  | _, _, .lst h r => .lst (e _ _ h) (DnL.mono e r)
  | _, _, .lsf h r => .lsf (e.sqL h) (DnL.mono e r)
  | _, _, .tup h r => .tup (e.sqT h) (DnL.mono e r)
  | _, _, .dic h r => .dic (e _ _ h) (DnL.mono e r)
  | _, _, .ins h r => .ins (e _ _ h) (DnL.mono e r)
theorem DnL.mono {K : PySem.W.Frag} {H H' : Hp} (e : Ext H H') : ∀ {v : List V} {d : List D}, DnL K H v d → DnL K H' v d
  | _, _, .nil => .nil
  | _, _, .cons h r => .cons (Dn.mono e h) (DnL.mono e r)
end
section
variable {K : PySem.W.Frag} {H H' : Hp}
theorem DnL.length : ∀ {vs : List V} {ds : List D}, DnL K H vs ds → vs.length = ds.length
  | _, _, .nil => rfl
  | _, _, .cons _ r => congrArg (· + 1) (DnL.length r)
theorem DnL.get : ∀ {vs : List V} {ds : List D} {i : Nat} {d : D}, DnL K H vs ds → ds[i]? = some d → ∃ v, vs[i]? = some v ∧ Dn K H v d
  | _, _, _, _, .nil, h => by simp at h
  | _, _, 0, _, .cons a _, h => by simp at h; subst h; exact ⟨_, rfl, a⟩
  | _, _, i + 1, _, .cons _ r, h => by
    obtain ⟨v, h1, h2⟩ := DnL.get (i := i) r (by simpa using h)
    exact ⟨v, by simpa using h1, h2⟩
theorem DnL.getV : ∀ {vs : List V} {ds : List D} {i : Nat} {v : V}, DnL K H vs ds → vs[i]? = some v → ∃ d, ds[i]? = some d ∧ Dn K H v d
  | _, _, _, _, .nil, h => by simp at h
  | _, _, 0, _, .cons a _, h => by simp at h; subst h; exact ⟨_, rfl, a⟩
  | _, _, i + 1, _, .cons _ r, h => by
    obtain ⟨v, h1, h2⟩ := DnL.getV (i := i) r (by simpa using h)
    exact ⟨v, by simpa using h1, h2⟩
theorem DnL.app : ∀ {vs ws : List V} {ds es : List D}, DnL K H vs ds → DnL K H ws es → DnL K H (vs ++ ws) (ds ++ es)
  | _, _, _, _, .nil, s => s
  | _, _, _, _, .cons a r, s => .cons a (DnL.app r s)
theorem DnL.one {v : V} {d : D} (h : Dn K H v d) : DnL K H [v] [d] := .cons h .nil
theorem DnL.take : ∀ {vs : List V} {ds : List D} (n : Nat), DnL K H vs ds → DnL K H (vs.take n) (ds.take n)
  | _, _, 0, _ => .nil
  | _, _, _ + 1, .nil => .nil
  | _, _, n + 1, .cons a r => .cons a (DnL.take n r)
theorem DnL.drop : ∀ {vs : List V} {ds : List D} (n : Nat), DnL K H vs ds → DnL K H (vs.drop n) (ds.drop n)
  | _, _, 0, r => r
  | _, _, _ + 1, .nil => .nil
  | _, _, n + 1, .cons _ r => DnL.drop n r
theorem DnL.set : ∀ {vs : List V} {ds : List D} {v : V} {d : D} (n : Nat), DnL K H vs ds → Dn K H v d → DnL K H (vs.set n v) (ds.set n d)
  | _, _, _, _, _, .nil, _ => .nil
  | _, _, _, _, 0, .cons _ r, h => .cons h r
  | _, _, _, _, n + 1, .cons a r, h => .cons a (DnL.set n r h)
theorem DnL.rep {vs : List V} {ds : List D} (h : DnL K H vs ds) : ∀ n : Nat, DnL K H (List.replicate n vs).flatten (List.replicate n ds).flatten
  | 0 => .nil
  | n + 1 => DnL.app h (DnL.rep h n)
theorem DnL.rev : ∀ {vs : List V} {ds : List D}, DnL K H vs ds → DnL K H vs.reverse ds.reverse
  | _, _, .nil => .nil
  | _, _, .cons a r => by rw [List.reverse_cons, List.reverse_cons]; exact DnL.app (DnL.rev r) (.one a)
theorem Dn.inv_int {v : V} {i : Int} (h : Dn K H v (.int i)) : v = .int i := by cases h; rfl
theorem Dn.inv_bl {v : V} {i : Bool} (h : Dn K H v (.bl i)) : v = .bl i := by cases h; rfl
theorem Dn.inv_str {v : V} {i : Str} (h : Dn K H v (.str i)) : v = .str i := by cases h; rfl
theorem Dn.inv_non {v : V} (h : Dn K H v .non) : v = .non := by cases h; rfl
theorem Dn.inv_cel {v : V} {a : Addr} (h : Dn K H v (.cel a)) : v = .ref a := by cases h; rfl
end
inductive Cel where
  | ls (xs : List D)
  | dc (kvs : List (Key × D))
  | ob (C : Addr) (fs : List (Str × D))
  | fd (o : Obj) (rs : List (Key × V)) (kvs : List (Key × D))
  | tp (o : Obj) (xs : List D)
abbrev Mem := Addr → Option Cel
def mset (M : Mem) (a : Addr) (x : Cel) : Mem := fun b => if b = a then some x else M b
theorem mset_same {M : Mem} {a : Addr} {x : Cel} : mset M a x a = some x := if_pos rfl
theorem mset_ne {M : Mem} {a b : Addr} {x : Cel} (h : b ≠ a) : mset M a x b = M b := if_neg h
theorem mset_mset {M : Mem} {a : Addr} {x y : Cel} : mset (mset M a x) a y = mset M a y := by
  funext b; unfold mset; split <;> rfl
inductive KvL {α : Type} (K : PySem.W.Frag) (H : Hp) : List (α × V) → List (α × D) → Prop
  | nil : KvL K H [] []
  | cons {k : α} {v : V} {d : D} {r : List (α × V)} {s : List (α × D)} : Dn K H v d → KvL K H r s → KvL K H ((k, v) :: r) ((k, d) :: s)
theorem KvL.mono {α : Type} {K : PySem.W.Frag} {H H' : Hp} (e : Ext H H') : ∀ {r : List (α × V)} {s : List (α × D)}, KvL K H r s → KvL K H' r s
  | _, _, .nil => .nil
  | _, _, .cons a b => .cons (a.mono e) (KvL.mono e b)
def CelOk (K : PySem.W.Frag) (H0 H : Hp) (c : Addr) : Cel → Prop
  | .ls xs => ∃ vs, H c = some (.lst vs) ∧ DnL K H0 vs xs
  | .dc ds => ∃ kvs, H c = some (.dK kvs) ∧ KvL K H0 kvs ds
  | .ob C fs => ∃ dx fvs, H c = some (.ins C dx fvs) ∧ KvL K H0 fvs fs
  | .fd o rs ds => H c = some (.frz o (.dK rs)) ∧ KvL K H0 rs ds
  | .tp o xs => o.dict = none ∧ ∃ vs, H c = some (.frz o (.tup vs)) ∧ DnL K H0 vs xs
theorem CelOk.same {K : PySem.W.Frag} {H0 H H1 H' : Hp} {c : Addr} {x : Cel} (h : CelOk K H0 H c x) (e : Ext H0 H1) (q : H' c = H c) : CelOk K H1 H' c x := by
  cases x with
  | ls xs => obtain ⟨vs, a, b⟩ := h; exact ⟨vs, by rw [q]; exact a, b.mono e⟩
  | dc ds => obtain ⟨vs, a, b⟩ := h; exact ⟨vs, by rw [q]; exact a, b.mono e⟩
  | ob C fs => obtain ⟨dx, vs, a, b⟩ := h; exact ⟨dx, vs, by rw [q]; exact a, b.mono e⟩
  | fd o rs ds => obtain ⟨a, b⟩ := h; exact ⟨by rw [q]; exact a, b.mono e⟩
  | tp o xs => obtain ⟨z, vs, a, b⟩ := h; exact ⟨z, vs, by rw [q]; exact a, b.mono e⟩
theorem CelOk.there {K : PySem.W.Frag} {H0 H : Hp} {c : Addr} {x : Cel} (h : CelOk K H0 H c x) : ∃ o, H c = some o := by
  cases x with
  | ls xs => obtain ⟨vs, a, b⟩ := h; exact ⟨_, a⟩
  | dc ds => obtain ⟨vs, a, b⟩ := h; exact ⟨_, a⟩
  | ob C fs => obtain ⟨dx, vs, a, b⟩ := h; exact ⟨_, a⟩
  | fd o rs ds => obtain ⟨a, b⟩ := h; exact ⟨_, a⟩
  | tp o xs => obtain ⟨z, vs, a, b⟩ := h; exact ⟨_, a⟩
structure SD (K : PySem.W.Frag) (H0 H : Hp) (M : Mem) : Prop where
  ex : Ext H0 H
  any : ∀ c x, M c = some x → H0 c = none ∧ CelOk K H0 H c x
section
variable {K : PySem.W.Frag} {H0 H : Hp} {M : Mem}
theorem SD.cell (S : SD K H0 H M) (c : Addr) (xs : List D) (h : M c = some (.ls xs)) : H0 c = none ∧ ∃ vs, H c = some (.lst vs) ∧ DnL K H0 vs xs := S.any c _ h
theorem SD.fresh (S : SD K H0 H M) {p : Addr} (h : H p = none) : H0 p = none ∧ M p = none := by
  refine ⟨S.ex.fresh h, ?_⟩
  cases q : M p with
  | none => rfl
  | some x =>
    obtain ⟨o, e⟩ := (S.any p x q).2.there
    rw [h] at e; cases e
/-- a new object -/
theorem SD.new (S : SD K H0 H M) {p : Addr} {o : HO} (h : H p = none) : SD K (upd H0 p o) (upd H p o) M := by
  refine ⟨S.ex.both, fun c x e => ?_⟩
  obtain ⟨n0, ok⟩ := S.any c x e
  obtain ⟨o1, e1⟩ := ok.there
  have ne : c ≠ p := ne_of_none e1 h
  exact ⟨by rw [upd_ne ne]; exact n0, ok.same (Ext.add (S.fresh h).1) (upd_ne ne)⟩
/-- a cell, new or old, as it stands from now on -/
theorem SD.put (S : SD K H0 H M) {p : Addr} {o : HO} {x : Cel} (h0 : H0 p = none) (ok : ∀ H', H' p = some o → CelOk K H0 H' p x) : SD K H0 (upd H p o) (mset M p x) := by
  refine ⟨S.ex.off h0, fun c y e => ?_⟩
  by_cases q : c = p
  · subst q; rw [mset_same] at e; cases e
    exact ⟨h0, ok _ upd_same⟩
  · rw [mset_ne q] at e
    obtain ⟨n1, k⟩ := S.any c y e
    exact ⟨n1, k.same (Ext.refl _) (upd_ne q)⟩
/-- a new cell -/
theorem SD.newCell (S : SD K H0 H M) {p : Addr} {vs : List V} {xs : List D} (h : H p = none) (r : DnL K H0 vs xs) : SD K H0 (upd H p (.lst vs)) (mset M p (.ls xs)) := S.put (S.fresh h).1 fun _ e => ⟨vs, e, r⟩
/-- a cell written -/
theorem SD.write (S : SD K H0 H M) {p : Addr} {vs : List V} {xs : List D} {y : Cel} (h : M p = some y) (r : DnL K H0 vs xs) : SD K H0 (upd H p (.lst vs)) (mset M p (.ls xs)) := S.put (S.any p y h).1 fun _ e => ⟨vs, e, r⟩
/-- an object that nobody tells of changes -/
theorem SD.aside (S : SD K H0 H M) {p : Addr} {o : HO} (h : H p = none) : SD K H0 (upd H p o) M := by
  refine ⟨S.ex.off (S.fresh h).1, fun c x e => ?_⟩
  obtain ⟨n1, k⟩ := S.any c x e
  obtain ⟨o1, e1⟩ := k.there
  exact ⟨n1, k.same (Ext.refl _) (upd_ne (ne_of_none e1 h))⟩
end
def celL (M : Mem) (c : Addr) : Option (List D) := match M c with
  | some (.ls xs) => some xs
  | _ => none
theorem celL_eq {M : Mem} {c : Addr} {xs : List D} (h : celL M c = some xs) : M c = some (.ls xs) := by
  unfold celL at h
  split at h
  · cases h; assumption
  · cases h
theorem celL_of {M : Mem} {c : Addr} {xs : List D} (h : M c = some (.ls xs)) : celL M c = some xs := by unfold celL; rw [h]
/-- the items of a list -/
def lstOf (M : Mem) : D → Option (List D)
  | .lst xs => some xs
  | .cel c => celL M c
  | _ => none
def tupOf : D → Option (List D)
  | .tup xs => some xs
  | _ => none
def lsqOf (M : Mem) : D → Option (List D)
  | .lst xs => some xs
  | .cel c => celL M c
  | .lsf xs => some xs
  | _ => none
def seqOf (M : Mem) : D → Option (List D)
  | .lst xs => some xs
  | .cel c => celL M c
  | .lsf xs => some xs
  | .tup xs => some xs
  | _ => none
section
variable {K : PySem.W.Frag} {H0 H : Hp} {M : Mem}
theorem SD.lst (S : SD K H0 H M) {v : V} {d : D} {xs : List D} (h : Dn K H0 v d) (e : lstOf M d = some xs) : ∃ a vs, v = .ref a ∧ H a = some (.lst vs) ∧ DnL K H0 vs xs := by
  cases h with
  | lst q r => cases e; exact ⟨_, _, rfl, S.ex _ _ q, r⟩
  | cel a =>
    obtain ⟨_, vs, e1, r⟩ := S.cell a xs (celL_eq e)
    exact ⟨a, vs, rfl, e1, r⟩
  | _ => cases e
theorem SD.seq (S : SD K H0 H M) {v : V} {d : D} {xs : List D} (h : Dn K H0 v d) (e : seqOf M d = some xs) : ∃ a vs, v = .ref a ∧ (SqL K H a vs ∨ SqT K H a vs) ∧ DnL K H0 vs xs := by
  cases h with
  | lst q r => cases e; exact ⟨_, _, rfl, .inl (SqL.of (S.ex _ _ q)), r⟩
  | lsf q r => cases e; exact ⟨_, _, rfl, .inl (S.ex.sqL q), r⟩
  | tup q r => cases e; exact ⟨_, _, rfl, .inr (S.ex.sqT q), r⟩
  | cel a =>
    obtain ⟨_, vs, e1, r⟩ := S.cell a xs (celL_eq e)
    exact ⟨a, vs, rfl, .inl (SqL.of e1), r⟩
  | _ => cases e
theorem SD.lsq (S : SD K H0 H M) {v : V} {d : D} {xs : List D} (h : Dn K H0 v d) (e : lsqOf M d = some xs) : ∃ a vs, v = .ref a ∧ SqL K H a vs ∧ DnL K H0 vs xs := by
  cases h with
  | lst q r => cases e; exact ⟨_, _, rfl, SqL.of (S.ex _ _ q), r⟩
  | lsf q r => cases e; exact ⟨_, _, rfl, S.ex.sqL q, r⟩
  | cel a =>
    obtain ⟨_, vs, e1, r⟩ := S.cell a xs (celL_eq e)
    exact ⟨a, vs, rfl, SqL.of e1, r⟩
  | _ => cases e
theorem SD.tup (S : SD K H0 H M) {v : V} {d : D} {xs : List D} (h : Dn K H0 v d) (e : tupOf d = some xs) : ∃ a vs, v = .ref a ∧ SqT K H a vs ∧ DnL K H0 vs xs := by
  cases h with
  | tup q r => cases e; exact ⟨_, _, rfl, S.ex.sqT q, r⟩
  | _ => cases e
end
abbrev EnvD := List (Option D)
abbrev QD := D → Mem → Prop
/-- an exception: its class, its own attributes -/
abbrev XD := Value → List Str → List D → Mem → Prop
abbrev DE := EnvD → Mem → QD → XD → Prop
abbrev DT := EnvD → Mem → (Bool → Mem → Prop) → XD → Prop
abbrev DA := EnvD → Mem → (List D → Mem → Prop) → XD → Prop
structure SlotOk (K : PySem.W.Frag) (H0 : Hp) (σ : L2.St) (env : EnvD) : Prop where
  len : σ.length = env.length
  get : ∀ (i : Nat) (d : D), env[i]? = some (some d) → ∃ v, σ[i]? = some (some v) ∧ Dn K H0 v d
def XdOk (K : PySem.W.Frag) (H0 H : Hp) (d : Option Addr) (ns : List Str) (ds : List D) : Prop :=
  (d = none ∧ ns = [] ∧ ds = []) ∨ ∃ a fs, d = some a ∧ H a = some (.xd fs) ∧ fs.map (·.1) = ns ∧ DnL K H0 (fs.map (·.2)) ds
def KQ (K : PySem.W.Frag) (H0 : Hp) (q : QD) (Q : VK) : Prop := ∀ v d H0' H' M', Ext H0 H0' → SD K H0' H' M' → Dn K H0' v d → q d M' → Q v H'
def KB (K : PySem.W.Frag) (H0 : Hp) (q : Bool → Mem → Prop) (Q : Bool → Hp → Prop) : Prop := ∀ b H0' H' M', Ext H0 H0' → SD K H0' H' M' → q b M' → Q b H'
def KA (K : PySem.W.Frag) (H0 : Hp) (q : List D → Mem → Prop) (Q : List V → Hp → Prop) : Prop := ∀ vs ds H0' H' M', Ext H0 H0' → SD K H0' H' M' → DnL K H0' vs ds → q ds M' → Q vs H'
def KX (K : PySem.W.Frag) (H0 : Hp) (E : XD) (W : XK) : Prop := ∀ cls dd ns ds H0' H' M', Ext H0 H0' → SD K H0' H' M' → XdOk K H0' H' dd ns ds → E cls ns ds M' → W cls dd H'
section
variable {K : PySem.W.Frag} {H0 H1 : Hp}
theorem KQ.mono {q : QD} {Q : VK} (h : KQ K H0 q Q) (e : Ext H0 H1) : KQ K H1 q Q := fun v d _ _ _ e' => h v d _ _ _ (e.trans e')
theorem KB.mono {q : Bool → Mem → Prop} {Q : Bool → Hp → Prop} (h : KB K H0 q Q) (e : Ext H0 H1) : KB K H1 q Q := fun v _ _ _ e' => h v _ _ _ (e.trans e')
theorem KA.mono {q : List D → Mem → Prop} {Q : List V → Hp → Prop} (h : KA K H0 q Q) (e : Ext H0 H1) : KA K H1 q Q := fun v d _ _ _ e' => h v d _ _ _ (e.trans e')
theorem KX.mono {q : XD} {Q : XK} (h : KX K H0 q Q) (e : Ext H0 H1) : KX K H1 q Q := fun c d n s _ _ _ e' => h c d n s _ _ _ (e.trans e')
theorem SlotOk.mono {σ : L2.St} {env : EnvD} (h : SlotOk K H0 σ env) (e : Ext H0 H1) : SlotOk K H1 σ env := ⟨h.len, fun i d q => let ⟨v, a, b⟩ := h.get i d q; ⟨v, a, b.mono e⟩⟩
theorem SlotOk.set {σ : L2.St} {env : EnvD} (h : SlotOk K H0 σ env) {v : V} {d : D} (i : Nat) (r : Dn K H0 v d) : SlotOk K H0 (σ.set i (some v)) (env.set i (some d)) := by
  refine ⟨by rw [List.length_set, List.length_set]; exact h.len, fun j e q => ?_⟩
  by_cases hj : i = j
  · subst hj
    have hi : i < env.length := by
      have := (List.getElem?_eq_some_iff.mp q).1
      rwa [List.length_set] at this
    rw [List.getElem?_set_self hi] at q
    cases q
    exact ⟨v, by rw [List.getElem?_set_self (by rw [h.len]; exact hi)], r⟩
  · rw [List.getElem?_set_ne hj] at q
    obtain ⟨u, a, b⟩ := h.get j e q
    exact ⟨u, by rw [List.getElem?_set_ne hj]; exact a, b⟩
end
def liftE (K : PySem.W.Frag) (W : WX) (de : DE) : TE := fun σ H Q => ∃ env M q E H0, SlotOk K H0 σ env ∧ SD K H0 H M ∧ de env M q E ∧ KQ K H0 q Q ∧ KX K H0 E fun c d => W c d σ
def liftT (K : PySem.W.Frag) (W : WX) (dt : DT) : TT := fun σ H Q => ∃ env M q E H0, SlotOk K H0 σ env ∧ SD K H0 H M ∧ dt env M q E ∧ KB K H0 q Q ∧ KX K H0 E fun c d => W c d σ
def liftA (K : PySem.W.Frag) (W : WX) (da : DA) : TA := fun σ H Q => ∃ env M q E H0, SlotOk K H0 σ env ∧ SD K H0 H M ∧ da env M q E ∧ KA K H0 q Q ∧ KX K H0 E fun c d => W c d σ
def PD (X : Cx) (W : WX) (e : Expr) (de : DE) : Prop := PE X e (liftE X.K W de)
def TD (X : Cx) (W : WX) (e : Expr) (dt : DT) : Prop := PT X e (liftT X.K W dt)
def AD (X : Cx) (W : WX) (es : List Expr) (da : DA) : Prop := PA X es (liftA X.K W da)
theorem peImp {X : Cx} {e : Expr} {t t' : TE} (h : PE X e t) (i : ∀ σ H Q, t' σ H Q → t σ H Q) : PE X e t' := ⟨fun pins s σ H Q I q => h.run pins s σ H Q I (i σ H Q q)⟩
theorem ptImp {X : Cx} {e : Expr} {t t' : TT} (h : PT X e t) (i : ∀ σ H Q, t' σ H Q → t σ H Q) : PT X e t' := ⟨fun pins s σ H Q I q => h.run pins s σ H Q I (i σ H Q q)⟩
theorem paImp {X : Cx} {e : List Expr} {t t' : TA} (h : PA X e t) (i : ∀ σ H Q, t' σ H Q → t σ H Q) : PA X e t' := ⟨fun pos pins s σ H Q I q => h.run pos pins s σ H Q I (i σ H Q q)⟩
theorem psImp {X : Cx} {e : Stmt} {t t' : TS} (h : PS X e t) (i : ∀ D σ H, t' D σ H → t D σ H) : PS X e t' := ⟨fun pins s σ H D I q => h.run pins s σ H D I (i D σ H q)⟩
theorem pssImp {X : Cx} {e : List Stmt} {t t' : TS} (h : PSs X e t) (i : ∀ D σ H, t' D σ H → t D σ H) : PSs X e t' := ⟨fun pins s σ H D I q => h.run pins s σ H D I (i D σ H q)⟩
/-- run an expression's lift, then go on -/
theorem goE {K : PySem.W.Frag} {W : WX} {de : DE} {σ : L2.St} {H H0 : Hp} {env : EnvD} {M : Mem} {q : QD} {E : XD} {Q : VK} (so : SlotOk K H0 σ env) (S : SD K H0 H M) (h : de env M q E) (kx : KX K H0 E fun c d => W c d σ)
    (k : ∀ v d H0' H' M', Ext H0 H0' → SlotOk K H0' σ env → SD K H0' H' M' → Dn K H0' v d → q d M' → (KX K H0' E fun c d => W c d σ) → Q v H') : liftE K W de σ H Q :=
  ⟨env, M, q, E, H0, so, S, h, fun v d H0' H' M' e S' r z => k v d H0' H' M' e (so.mono e) S' r z (kx.mono e), kx⟩
theorem goT {K : PySem.W.Frag} {W : WX} {de : DT} {σ : L2.St} {H H0 : Hp} {env : EnvD} {M : Mem} {q : Bool → Mem → Prop} {E : XD} {Q : Bool → Hp → Prop} (so : SlotOk K H0 σ env) (S : SD K H0 H M) (h : de env M q E) (kx : KX K H0 E fun c d => W c d σ)
    (k : ∀ b H0' H' M', Ext H0 H0' → SlotOk K H0' σ env → SD K H0' H' M' → q b M' → (KX K H0' E fun c d => W c d σ) → Q b H') : liftT K W de σ H Q :=
  ⟨env, M, q, E, H0, so, S, h, fun b H0' H' M' e S' z => k b H0' H' M' e (so.mono e) S' z (kx.mono e), kx⟩
theorem goA {K : PySem.W.Frag} {W : WX} {de : DA} {σ : L2.St} {H H0 : Hp} {env : EnvD} {M : Mem} {q : List D → Mem → Prop} {E : XD} {Q : List V → Hp → Prop} (so : SlotOk K H0 σ env) (S : SD K H0 H M) (h : de env M q E) (kx : KX K H0 E fun c d => W c d σ)
    (k : ∀ v d H0' H' M', Ext H0 H0' → SlotOk K H0' σ env → SD K H0' H' M' → DnL K H0' v d → q d M' → (KX K H0' E fun c d => W c d σ) → Q v H') : liftA K W de σ H Q :=
  ⟨env, M, q, E, H0, so, S, h, fun v d H0' H' M' e S' r z => k v d H0' H' M' e (so.mono e) S' r z (kx.mono e), kx⟩
section
variable {X : Cx} {W : WX}
@[reducible] def dVar (i : Nat) : DE := fun env M q _ => ∃ d, env[i]? = some (some d) ∧ q d M
@[reducible] def dC (d : D) : DE := fun _ M q _ => q d M
theorem pd_of_tC {e : Expr} {v : V} {d : D} (h : PE X e (tC v)) (r : ∀ H, Dn X.K H v d) : PD X W e (dC d) := peImp h fun σ H Q ⟨env, M, q, E, H0, so, S, z, k, kx⟩ => k v d H0 H M (Ext.refl H0) S (r H0) z
theorem pd_var {e : Expr} {i : Nat} (h : PE X e (tVar i)) : PD X W e (dVar i) := peImp h fun σ H Q ⟨env, M, q, E, H0, so, S, z, k, kx⟩ => by
  obtain ⟨d, e, z⟩ := z
  obtain ⟨v, e1, r⟩ := so.get i d e
  exact ⟨v, e1, k v d H0 H M (Ext.refl H0) S r z⟩
theorem pd_int {i : Int} {j pos} : PD X W (.Constant (.int i) j pos) (dC (.int i)) := pd_of_tC pe_int fun _ => .int i
theorem pd_bl {i : Bool} {j pos} : PD X W (.Constant (.bool i) j pos) (dC (.bl i)) := pd_of_tC pe_bl fun _ => .bl i
theorem pd_str {i : Str} {j pos} : PD X W (.Constant (.str i) j pos) (dC (.str i)) := pd_of_tC pe_str fun _ => .str i
theorem pd_non {j pos} : PD X W (.Constant .none j pos) (dC .non) := pd_of_tC pe_non fun _ => .non
/-- the name in slot i -/
theorem vr (i : Nat) {x : Str} {pos : Pos} (hN : X.N[i]? = some x := by rfl) (hv : Vis X.env.scope x := by first | exact Or.inl rfl | exact Or.inr (Or.inl rfl) | exact Or.inr (Or.inr rfl)) (hd : (x == ("__debug__" : Str)) = false := by decide)
    (hcd : (x == ("__classdict__" : Str)) = false := by decide) : PD X W (.Name x pos) (dVar i) := pd_var (pe_var hN hv hd hcd)
abbrev RD1 := D → Mem → QD → Prop
abbrev RD2 := D → D → Mem → QD → Prop
abbrev RDL := List D → Mem → QD → Prop
def OpD (X : Cx) (f : Value → Value → Sem Value) (rd : RD2) : Prop := ∃ r, OpR X f r ∧ ∀ H0 H M x y dx dy q Q, SD X.K H0 H M → Dn X.K H0 x dx → Dn X.K H0 y dy → rd dx dy M q → KQ X.K H0 q Q → r x y H Q
theorem OpD.or {f : Value → Value → Sem Value} {a b : RD2} (h : OpD X f a) (h' : OpD X f b) : OpD X f (fun x y M q => a x y M q ∨ b x y M q) := by
  obtain ⟨r, o, z⟩ := h
  obtain ⟨r', o', z'⟩ := h'
  refine ⟨fun x y H Q => r x y H Q ∨ r' x y H Q, fun pins s σ H x y v u Q I rx ry w => ?_, fun H0 H M x y dx dy q Q S hx hy w k => w.elim (fun w => .inl (z H0 H M x y dx dy q Q S hx hy w k)) fun w => .inr (z' H0 H M x y dx dy q Q S hx hy w k)⟩
  rcases w with w | w
  · exact o pins s σ H x y v u Q I rx ry w
  · exact o' pins s σ H x y v u Q I rx ry w
theorem OpD.imp {f : Value → Value → Sem Value} {a b : RD2} (h : OpD X f a) (i : ∀ x y M q, b x y M q → a x y M q) : OpD X f b := by
  obtain ⟨r, o, z⟩ := h
  exact ⟨r, o, fun H0 H M x y dx dy q Q S hx hy w k => z H0 H M x y dx dy q Q S hx hy (i _ _ _ _ w) k⟩
@[reducible] def dOp (rd : RD2) (da db : DE) : DE := fun env M q E => da env M (fun x M1 => db env M1 (fun y M2 => rd x y M2 q) E) E
theorem lift_op {rd : RD2} {r : R2} {da db : DE} {K : PySem.W.Frag} (z : ∀ H0 H M x y dx dy q Q, SD K H0 H M → Dn K H0 x dx → Dn K H0 y dy → rd dx dy M q → KQ K H0 q Q → r x y H Q) :
    ∀ σ H Q, liftE K W (dOp rd da db) σ H Q → tOp r (liftE K W da) (liftE K W db) σ H Q := fun σ H Q ⟨env, M, q, E, H0, so, S, h, k, kx⟩ =>
  goE so S h kx fun x dx H1 H' M1 e1 so1 S1 rx h1 kx1 => goE so1 S1 h1 kx1 fun y dy H2 H'' M2 e2 so2 S2 ry h2 kx2 => z H2 H'' M2 x y dx dy q Q S2 (rx.mono e2) ry h2 (k.mono (e1.trans e2))
theorem pd_op {op : Operator} {rd : RD2} {a b : Expr} {da db : DE} {pos : Pos} (ho : OpD X (binaryOp op) rd) (ha : PD X W a da) (hb : PD X W b db) : PD X W (.BinOp a op b pos) (dOp rd da db) := by
  obtain ⟨r, o, z⟩ := ho
  exact peImp (pe_op o ha hb) (lift_op z)
theorem pd_cmp {op : CmpOp} {rd : RD2} {a b : Expr} {da db : DE} {pos : Pos} (ho : OpD X (compareOp op) rd) (ha : PD X W a da) (hb : PD X W b db) (hm : behindInMarks op b = false) : PD X W (.Compare a [op] [b] pos) (dOp rd da db) := by
  obtain ⟨r, o, z⟩ := ho
  exact peImp (pe_cmpR o ha hb hm) (lift_op z)
def UnD (X : Cx) (f : Value → Sem Value) (rd : RD1) : Prop := ∃ r, UnR X f r ∧ ∀ H0 H M x dx q Q, SD X.K H0 H M → Dn X.K H0 x dx → rd dx M q → KQ X.K H0 q Q → r x H Q
@[reducible] def dUn (rd : RD1) (da : DE) : DE := fun env M q E => da env M (fun x M1 => rd x M1 q) E
theorem pd_un {op : UnaryOp} {rd : RD1} {a : Expr} {da : DE} {pos : Pos} (ho : UnD X (unaryOp op) rd) (ha : PD X W a da) : PD X W (.UnaryOp op a pos) (dUn rd da) := by
  obtain ⟨r, o, z⟩ := ho
  exact peImp (pe_un o ha) fun σ H Q ⟨env, M, q, E, H0, so, S, h, k, kx⟩ => goE so S h kx fun x dx H1 H' M1 e1 so1 S1 rx h1 kx1 => z H1 H' M1 x dx q Q S1 rx h1 (k.mono e1)
def CallD (X : Cx) (f : Value) (rd : RDL) : Prop := ∃ r, CallR X f r ∧ ∀ H0 H M xs ds q Q, SD X.K H0 H M → DnL X.K H0 xs ds → rd ds M q → KQ X.K H0 q Q → r xs H Q
@[reducible] def dCB (rd : RDL) (da : DA) : DE := fun env M q E => da env M (fun xs M1 => rd xs M1 q) E
theorem CallD.or {f : Value} {a b : RDL} (h : CallD X f a) (h' : CallD X f b) : CallD X f (fun x M q => a x M q ∨ b x M q) := by
  obtain ⟨r, o, z⟩ := h
  obtain ⟨r', o', z'⟩ := h'
  refine ⟨fun x H Q => r x H Q ∨ r' x H Q, fun pins s σ H x us Q I rx w => ?_, fun H0 H M x dx q Q S hx w k => w.elim (fun w => .inl (z H0 H M x dx q Q S hx w k)) fun w => .inr (z' H0 H M x dx q Q S hx w k)⟩
  rcases w with w | w
  · exact o pins s σ H x us Q I rx w
  · exact o' pins s σ H x us Q I rx w
theorem CallD.imp {f : Value} {a b : RDL} (h : CallD X f a) (i : ∀ x M q, b x M q → a x M q) : CallD X f b := by
  obtain ⟨r, o, z⟩ := h
  exact ⟨r, o, fun H0 H M x dx q Q S hx w k => z H0 H M x dx q Q S hx (i _ _ _ w) k⟩
end
end DL
set_option maxRecDepth 100000
set_option maxHeartbeats 4000000
namespace DL
open PySem PySem.Spec PyProof.Rows L2
mutual
def toPy : D → Option PyData
  | .non => some .none
  | .bl b => some (.bool b)
  | .int i => some (.int i)
  | .str x => some (.str x)
  | .lst xs => (toPys xs).map .list
  | .lsf xs => (toPys xs).map .list
  | .tup xs => (toPys xs).map .tuple
  | .ty _ => none
  | .dic _ _ => none
  | .ins _ _ _ => none
  | .cel _ => none
def toPys : List D → Option (List PyData)
  | [] => some []
  | d :: ds => match toPy d, toPys ds with
    | some p, some ps => some (p :: ps)
    | _, _ => none
end
def pyOf (M : Mem) : D → Option PyData
  | .cel c => match celL M c with
    | some xs => (toPys xs).map .list
    | none => none
  | d => toPy d
section
variable {K : PySem.W.Frag} {H0 H : Hp} {M : Mem}
theorem omap {α β : Type} {f : α → β} {o : Option α} {b : β} (h : o.map f = some b) : ∃ a, o = some a ∧ b = f a := by
  cases o with
  | none => cases h
  | some a => exact ⟨a, rfl, (Option.some.inj h).symm⟩
mutual
theorem toPy_dp : ∀ (d : D) {v : V} {p : PyData}, Dn K H v d → toPy d = some p → Dp K H v p
  | .non, _, _, .non, e => by cases e; exact .non
  | .bl b, _, _, .bl _, e => by cases e; exact .bl _
  | .int b, _, _, .int _, e => by cases e; exact .int _
  | .str b, _, _, .str _, e => by cases e; exact .str _
  | .lst xs, _, _, .lst h r, e => by
    obtain ⟨ps, e1, rfl⟩ := omap (show (toPys xs).map PyData.list = _ from e)
    exact .lst (SqL.of h) (toPys_dp xs r e1)
  | .lsf xs, _, _, .lsf h r, e => by
    obtain ⟨ps, e1, rfl⟩ := omap (show (toPys xs).map PyData.list = _ from e)
    exact .lst h (toPys_dp xs r e1)
  | .tup xs, _, _, .tup h r, e => by
    obtain ⟨ps, e1, rfl⟩ := omap (show (toPys xs).map PyData.tuple = _ from e)
    exact .tup h (toPys_dp xs r e1)
  | .ty _, _, _, _, e => by cases e
  | .dic _ _, _, _, _, e => by cases e
  | .ins _ _ _, _, _, _, e => by cases e
  | .cel _, _, _, _, e => by cases e
theorem toPys_dp : ∀ (ds : List D) {vs : List V} {ps : List PyData}, DnL K H vs ds → toPys ds = some ps → DpAll K H vs ps
  | [], _, _, .nil, e => by cases e; exact .nil
  | d :: ds, _, _, .cons h r, e => by
    have e' : (match toPy d, toPys ds with | some p, some ps => some (p :: ps) | _, _ => none) = some _ := e
    cases e1 : toPy d with
    | none => rw [e1] at e'; cases e'
    | some p =>
      cases e2 : toPys ds with
      | none => rw [e1, e2] at e'; cases e'
      | some ps =>
        rw [e1, e2] at e'
        cases e'
        exact .cons (toPy_dp d h e1) (toPys_dp ds r e2)
end
theorem SD.py (S : SD K H0 H M) {v : V} {d : D} {p : PyData} (h : Dn K H0 v d) (e : pyOf M d = some p) : Dp K H v p := by
  cases d with
  | cel c =>
    cases h with
    | cel =>
      have e' : (match celL M c with | some xs => (toPys xs).map PyData.list | none => none) = some p := e
      cases q : celL M c with
      | none => rw [q] at e'; cases e'
      | some xs =>
        rw [q] at e'
        obtain ⟨ps, e1, rfl⟩ := omap e'
        obtain ⟨_, vs, e2, r⟩ := S.cell c xs (celL_eq q)
        exact .lst (SqL.of e2) (toPys_dp xs (r.mono S.ex) e1)
  | _ => exact toPy_dp _ (h.mono S.ex) e
end
section
variable {X : Cx} {W : WX}
/-- from a rule whose answer is a value told at once -/
theorem KQ.here {K : PySem.W.Frag} {H0 H : Hp} {M : Mem} {q : QD} {Q : VK} {v : V} {d : D} (k : KQ K H0 q Q) (S : SD K H0 H M) (r : Dn K H0 v d) (h : q d M) : Q v H := k v d H0 H M (Ext.refl H0) S r h
theorem KQ.newL {K : PySem.W.Frag} {H0 H : Hp} {M : Mem} {q : QD} {Q : VK} {vs : List V} {ds : List D} (k : KQ K H0 q Q) (S : SD K H0 H M) (r : DnL K H0 vs ds) (h : q (.lst ds) M) : ∀ p, H p = none → Q (.ref p) (upd H p (.lst vs)) := fun p hp =>
  k (.ref p) (.lst ds) (upd H0 p (.lst vs)) _ M (Ext.add (S.fresh hp).1) (S.new hp) (.lst upd_same (r.mono (Ext.add (S.fresh hp).1))) h
theorem KQ.newT {K : PySem.W.Frag} {H0 H : Hp} {M : Mem} {q : QD} {Q : VK} {vs : List V} {ds : List D} (k : KQ K H0 q Q) (S : SD K H0 H M) (r : DnL K H0 vs ds) (h : q (.tup ds) M) : ∀ p, H p = none → Q (.ref p) (upd H p (.tup vs)) := fun p hp =>
  k (.ref p) (.tup ds) (upd H0 p (.tup vs)) _ M (Ext.add (S.fresh hp).1) (S.new hp) (.tup (SqT.of upd_same) (r.mono (Ext.add (S.fresh hp).1))) h
theorem KQ.newC {K : PySem.W.Frag} {H0 H : Hp} {M : Mem} {q : QD} {Q : VK} {vs : List V} {ds : List D} (k : KQ K H0 q Q) (S : SD K H0 H M) (r : DnL K H0 vs ds) (h : ∀ a, M a = none → q (.cel a) (mset M a (.ls ds))) : ∀ p, H p = none → Q (.ref p) (upd H p (.lst vs)) := fun p hp =>
  k (.ref p) (.cel p) H0 _ _ (Ext.refl H0) (S.newCell hp r) (.cel p) (h p (S.fresh hp).2)
/-- ints: what is asked, the answer -/
def rdI (C : Int → Int → Prop) (g : Int → Int → D) : RD2 := fun x y M q => match x, y with
  | .int i, .int j => C i j ∧ q (g i j) M
  | _, _ => False
theorem opd_int {f : Value → Value → Sem Value} {C : Int → Int → Prop} {g : Int → Int → V} {gd : Int → Int → D} (h : OpR X f (rI C g)) (hg : ∀ H i j, Dn X.K H (g i j) (gd i j)) : OpD X f (rdI C gd) :=
  ⟨_, h, fun H0 H M x y dx dy q Q S hx hy w k => by
    cases dx <;> cases dy <;> try exact False.elim w
    cases hx; cases hy
    obtain ⟨c, w⟩ := w
    exact ⟨_, _, rfl, rfl, c, k.here S (hg _ _ _) w⟩⟩
theorem opd_int0 {f : Value → Value → Sem Value} {g : Int → Int → V} {gd : Int → Int → D} (h : OpR X f (rI0 g)) (hg : ∀ H i j, Dn X.K H (g i j) (gd i j)) : OpD X f (rdI (fun _ _ => True) gd) :=
  ⟨_, h, fun H0 H M x y dx dy q Q S hx hy w k => by
    cases dx <;> cases dy <;> try exact False.elim w
    cases hx; cases hy
    exact ⟨_, _, rfl, rfl, k.here S (hg _ _ _) w.2⟩⟩
def rdAdd : RD2 := fun x y M q => match x, y with
  | .int i, .int j => q (.int (i + j)) M
  | .str a, .str b => a.length + b.length ≤ sizeLine ∧ q (.str (a ++ b)) M
  | .tup a, .tup b => a.length + b.length ≤ sizeLine ∧ q (.tup (a ++ b)) M
  | x, y => ∃ a b, lstOf M x = some a ∧ lstOf M y = some b ∧ a.length + b.length ≤ sizeLine ∧ q (.lst (a ++ b)) M
def rdAddS : RD2 := fun x y M q => match x, y with
  | .str a, .str b => a.length + b.length ≤ sizeLine ∧ q (.str (a ++ b)) M
  | _, _ => False
def rdAddT : RD2 := fun x y M q => match x, y with
  | .tup a, .tup b => a.length + b.length ≤ sizeLine ∧ q (.tup (a ++ b)) M
  | _, _ => False
def rdAddL : RD2 := fun x y M q => ∃ a b, lstOf M x = some a ∧ lstOf M y = some b ∧ a.length + b.length ≤ sizeLine ∧ q (.lst (a ++ b)) M
theorem opd_addS : OpD X (binaryOp .Add) rdAddS := ⟨_, op_add_str, fun H0 H M x y dx dy q Q S hx hy w k => by
  cases dx <;> cases dy <;> try exact False.elim w
  cases hx; cases hy
  exact ⟨_, _, rfl, rfl, w.1, k.here S (.str _) w.2⟩⟩
theorem opd_addT : OpD X (binaryOp .Add) rdAddT := ⟨_, op_catA, fun H0 H M x y dx dy q Q S hx hy w k => by
  cases dx <;> cases dy <;> try exact False.elim w
  cases hx with
  | tup hx rx =>
  cases hy with
  | tup hy ry =>
  obtain ⟨c, w⟩ := w
  refine ⟨_, _, _, _, rfl, rfl, S.ex.sqT hx, S.ex.sqT hy, by rw [rx.length, ry.length]; exact c, fun e => ?_, fun _ e => ?_, fun _ _ => k.newT S (rx.app ry) w⟩
  · subst e; cases rx; exact k.here S (.tup hy ry) w
  · subst e; cases ry; rw [List.append_nil] at w; exact k.here S (.tup hx rx) w⟩
theorem opd_addL : OpD X (binaryOp .Add) rdAddL := ⟨_, op_cat, fun H0 H M x y dx dy q Q S hx hy w k => by
  obtain ⟨a, b, ea, eb, c, w⟩ := w
  obtain ⟨p, vs, rfl, hp, rp⟩ := S.lst hx ea
  obtain ⟨p', vs', rfl, hp', rp'⟩ := S.lst hy eb
  exact ⟨_, _, _, _, rfl, rfl, hp, hp', by rw [rp.length, rp'.length]; exact c, k.newL S (rp.app rp') w⟩⟩
theorem opd_add : OpD X (binaryOp .Add) rdAdd := by
  refine ((opd_int0 (g := fun i j => .int (i + j)) (gd := fun i j => .int (i + j)) op_add fun _ _ _ => .int _).or (opd_addS.or (opd_addT.or opd_addL))).imp fun x y M q h => ?_
  cases x <;> cases y <;> first
    | exact .inl ⟨trivial, h⟩
    | exact .inr (.inl h)
    | exact .inr (.inr (.inl h))
    | exact .inr (.inr (.inr h))
def rdSub : RD2 := rdI (fun _ _ => True) fun i j => .int (i - j)
theorem opd_sub : OpD X (binaryOp .Sub) rdSub := opd_int0 op_sub fun _ _ _ => .int _
/-- // and % by a positive number; the divisor of // below 2 ^ 30 -/
def rdDiv : RD2 := rdI CDiv fun i j => .int (i / j)
theorem opd_div : OpD X (binaryOp .FloorDiv) rdDiv := opd_int op_fdiv fun _ _ _ => .int _
def rdMod : RD2 := rdI (fun _ j => 0 < j) fun i j => .int (i % j)
theorem opd_mod : OpD X (binaryOp .Mod) rdMod := opd_int op_mod fun _ _ _ => .int _
def rdPow : RD2 := rdI CPow fun i j => .int (i ^ j.toNat)
theorem opd_pow : OpD X (binaryOp .Pow) rdPow := opd_int op_pow fun _ _ _ => .int _
/-- products: both sides' bits together bounded -/
def CMulB (i j : Int) : Prop := IntMulOk i j
theorem op_mulB : OpR X (binaryOp .Mult) (rI CMulB fun i j => .int (i * j)) := fun pins s σ H x y v u Q I rx ry h => by
  obtain ⟨i, j, rfl, rfl, c, q⟩ := h
  obtain ⟨t, rfl⟩ := rx
  obtain ⟨t', rfl⟩ := ry
  exact mul_int ⟨.int (i * j), H, I.tok _, ⟨_, rfl⟩, q⟩ c
def rdMul : RD2 := fun x y M q => match x, y with
  | .int i, .int j => CMulB i j ∧ q (.int (i * j)) M
  | x, .int k => ∃ a, lstOf M x = some a ∧ (-(2 ^ 63) ≤ k ∧ k < 2 ^ 63) ∧ a.length * k.toNat ≤ sizeLine ∧ q (.lst (List.replicate k.toNat a).flatten) M
  | _, _ => False
def rdRep : RD2 := fun x y M q => match y with
  | .int k => ∃ a, lstOf M x = some a ∧ (-(2 ^ 63) ≤ k ∧ k < 2 ^ 63) ∧ a.length * k.toNat ≤ sizeLine ∧ q (.lst (List.replicate k.toNat a).flatten) M
  | _ => False
theorem opd_rep : OpD X (binaryOp .Mult) rdRep := ⟨_, op_rep, fun H0 H M x y dx dy q Q S hx hy w k => by
  cases dy <;> try exact False.elim w
  obtain ⟨a, ea, c, c2, w⟩ := w
  obtain ⟨p, vs, rfl, hp, rp⟩ := S.lst hx ea
  cases hy
  exact ⟨_, _, _, rfl, rfl, hp, c.1, c.2, by rw [rp.length]; exact c2, k.newL S (rp.rep _) w⟩⟩
theorem opd_mul : OpD X (binaryOp .Mult) rdMul := by
  refine ((opd_int (g := fun i j => .int (i * j)) (gd := fun i j => .int (i * j)) op_mulB fun _ _ _ => .int _).or opd_rep).imp fun x y M q h => ?_
  cases x <;> cases y <;> first
    | exact .inl h
    | exact .inr h
    | exact False.elim h
def rdLt : RD2 := rdI (fun _ _ => True) fun i j => .bl (decide (i < j))
def rdLe : RD2 := rdI (fun _ _ => True) fun i j => .bl (decide (i ≤ j))
def rdGt : RD2 := rdI (fun _ _ => True) fun i j => .bl (decide (j < i))
def rdGe : RD2 := rdI (fun _ _ => True) fun i j => .bl (decide (j ≤ i))
theorem opd_lt : OpD X (compareOp .Lt) rdLt := opd_int0 op_lt fun _ _ _ => .bl _
theorem opd_le : OpD X (compareOp .LtE) rdLe := opd_int0 op_le fun _ _ _ => .bl _
theorem opd_gt : OpD X (compareOp .Gt) rdGt := opd_int0 op_gt fun _ _ _ => .bl _
theorem opd_ge : OpD X (compareOp .GtE) rdGe := opd_int0 op_ge fun _ _ _ => .bl _
/-- == != of plain data -/
def rdEqP : RD2 := fun x y M q => ∃ a b, pyOf M x = some a ∧ pyOf M y = some b ∧ SeqAt.shaped a = true ∧ SeqAt.shaped b = true ∧ q (.bl (PyData.eqv a b)) M
def rdNeP : RD2 := fun x y M q => ∃ a b, pyOf M x = some a ∧ pyOf M y = some b ∧ SeqAt.shaped a = true ∧ SeqAt.shaped b = true ∧ q (.bl (!PyData.eqv a b)) M
theorem opd_eqP (hu : X.A.units + 64 < cLine) : OpD X (compareOp .Eq) rdEqP := ⟨_, op_eqD hu, fun H0 H M x y dx dy q Q S hx hy w k => by
  obtain ⟨a, b, ea, eb, sa, sb, w⟩ := w
  exact ⟨a, b, S.py hx ea, S.py hy eb, sa, sb, k.here S (.bl _) w⟩⟩
theorem opd_neP (hu : X.A.units + 64 < cLine) : OpD X (compareOp .NotEq) rdNeP := ⟨_, op_neD hu, fun H0 H M x y dx dy q Q S hx hy w k => by
  obtain ⟨a, b, ea, eb, sa, sb, w⟩ := w
  exact ⟨a, b, S.py hx ea, S.py hy eb, sa, sb, k.here S (.bl _) w⟩⟩
def rdEqS : RD2 := fun x y M q => ∃ i j : Str, x = .str i ∧ y = .str j ∧ q (.bl (decide (i = j))) M
def rdNeS : RD2 := fun x y M q => ∃ i j : Str, x = .str i ∧ y = .str j ∧ q (.bl (!decide (i = j))) M
theorem dec_str {i j : Str} : decide (V.str i = V.str j) = decide (i = j) := by
  by_cases e : i = j
  · subst e; simp
  · rw [decide_eq_false e, decide_eq_false fun z => e (V.str.inj z)]
theorem opd_eqS : OpD X (compareOp .Eq) rdEqS := ⟨_, op_eq, fun H0 H M x y dx dy q Q S hx hy w k => by
  obtain ⟨i, j, rfl, rfl, w⟩ := w
  cases hx; cases hy
  exact ⟨rfl, by rw [dec_str]; exact k.here S (.bl _) w⟩⟩
theorem opd_neS : OpD X (compareOp .NotEq) rdNeS := ⟨_, op_ne, fun H0 H M x y dx dy q Q S hx hy w k => by
  obtain ⟨i, j, rfl, rfl, w⟩ := w
  cases hx; cases hy
  exact ⟨rfl, by rw [dec_str]; exact k.here S (.bl _) w⟩⟩
def rdEq : RD2 := fun x y M q => rdEqP x y M q ∨ rdEqS x y M q
def rdNe : RD2 := fun x y M q => rdNeP x y M q ∨ rdNeS x y M q
theorem opd_eq (hu : X.A.units + 64 < cLine) : OpD X (compareOp .Eq) rdEq := (opd_eqP hu).or opd_eqS
theorem opd_ne (hu : X.A.units + 64 < cLine) : OpD X (compareOp .NotEq) rdNe := (opd_neP hu).or opd_neS
def rdNeg : RD1 := fun x M q => match x with
  | .int i => q (.int (-i)) M
  | _ => False
theorem und_neg : UnD X (unaryOp .USub) rdNeg := ⟨_, un_neg, fun H0 H M x dx q Q S hx w k => by
  cases dx <;> try exact False.elim w
  cases hx
  exact ⟨_, rfl, k.here S (.int _) w⟩⟩
end
end DL
set_option maxRecDepth 100000
set_option maxHeartbeats 4000000
namespace DL
open PySem PySem.Spec PyProof.Rows L2
def flat : D → Option V
  | .non => some .non
  | .bl b => some (.bl b)
  | .int i => some (.int i)
  | .str x => some (.str x)
  | _ => none
def flats : List D → Option (List V)
  | [] => some []
  | d :: ds => match flat d, flats ds with
    | some v, some vs => some (v :: vs)
    | _, _ => none
section
variable {K : PySem.W.Frag} {H0 H : Hp} {M : Mem}
theorem flat_dn {v v' : V} {d : D} (h : Dn K H v d) (e : flat d = some v') : v = v' ∧ flatV v = true := by
  cases h <;> first
    | (cases e; exact ⟨rfl, rfl⟩)
    | cases e
theorem flats_dn : ∀ {ds : List D} {vs ws : List V}, DnL K H vs ds → flats ds = some ws → vs = ws ∧ vs.all flatV = true
  | _, _, _, .nil, e => by cases e; exact ⟨rfl, rfl⟩
  | d :: ds, _, _, .cons h r, e => by
    have e' : (match flat d, flats ds with | some v, some vs => some (v :: vs) | _, _ => none) = some _ := e
    cases e1 : flat d with
    | none => rw [e1] at e'; cases e'
    | some p =>
      cases e2 : flats ds with
      | none => rw [e1, e2] at e'; cases e'
      | some ps =>
        rw [e1, e2] at e'
        cases e'
        obtain ⟨rfl, f1⟩ := flat_dn h e1
        obtain ⟨rfl, f2⟩ := flats_dn r e2
        exact ⟨rfl, by rw [List.all_cons, f1, f2] <;> rfl⟩
end
section
variable {X : Cx} {W : WX}
def rdInQ (neg : Bool) : RD2 := fun x y M q => ∃ xs v vs, seqOf M y = some xs ∧ flat x = some v ∧ flats xs = some vs ∧ q (.bl (if neg then !inV v vs else inV v vs)) M
def rdInC (neg : Bool) : RD2 := fun x y M q => match x, y with
  | .str a, .str z => ∃ c, a = ⟨#[c]⟩ ∧ q (.bl (if neg then !decide (c ∈ z.cps.toList) else decide (c ∈ z.cps.toList))) M
  | _, _ => False
def rdIn (neg : Bool) : RD2 := fun x y M q => match y with
  | .str z => rdInC neg x (.str z) M q
  | y => rdInQ neg x y M q
theorem inQ_ok {K : PySem.W.Frag} {neg : Bool} : ∀ H0 H M x y dx dy q Q, SD K H0 H M → Dn K H0 x dx → Dn K H0 y dy → rdInQ neg dx dy M q → KQ K H0 q Q → rIn K neg x y H Q := fun H0 H M x y dx dy q Q S hx hy w k => by
  obtain ⟨xs, v, vs, e1, e2, e3, w⟩ := w
  obtain ⟨a, ws, rfl, hs, r⟩ := S.seq hy e1
  obtain ⟨rfl, f1⟩ := flat_dn hx e2
  obtain ⟨rfl, f2⟩ := flats_dn r e3
  exact ⟨a, _, rfl, hs, f1, f2, k.here S (.bl _) w⟩
theorem opd_inQ : OpD X (compareOp .In) (rdInQ false) := ⟨_, op_in_seq, inQ_ok⟩
theorem opd_niQ : OpD X (compareOp .NotIn) (rdInQ true) := ⟨_, op_notIn_seq, inQ_ok⟩
theorem opd_inC : OpD X (compareOp .In) (rdInC false) := ⟨_, op_in_sign, fun H0 H M x y dx dy q Q S hx hy w k => by
  cases dx <;> cases dy <;> try exact False.elim w
  obtain ⟨c, rfl, w⟩ := w
  cases hx; cases hy
  exact ⟨c, _, rfl, rfl, k.here S (.bl _) w⟩⟩
theorem opd_niC : OpD X (compareOp .NotIn) (rdInC true) := ⟨_, op_notIn_sign, fun H0 H M x y dx dy q Q S hx hy w k => by
  cases dx <;> cases dy <;> try exact False.elim w
  obtain ⟨c, rfl, w⟩ := w
  cases hx; cases hy
  exact ⟨c, _, rfl, rfl, k.here S (.bl _) w⟩⟩
theorem opd_in : OpD X (compareOp .In) (rdIn false) := (opd_inC.or opd_inQ).imp fun x y M q h => by
  cases y <;> first
    | exact .inl h
    | exact .inr h
theorem opd_ni : OpD X (compareOp .NotIn) (rdIn true) := (opd_niC.or opd_niQ).imp fun x y M q h => by
  cases y <;> first
    | exact .inl h
    | exact .inr h
@[reducible] def dNil : DA := fun _ M q _ => q [] M
@[reducible] def dCons (de : DE) (da : DA) : DA := fun env M q E => de env M (fun x M1 => da env M1 (fun xs M2 => q (x :: xs) M2) E) E
theorem ad_nil : AD X W [] dNil := paImp pa_nil fun σ H Q ⟨env, M, q, E, H0, so, S, h, k, kx⟩ => k [] [] H0 H M (Ext.refl H0) S .nil h
theorem ad_cons {e : Expr} {es : List Expr} {de : DE} {da : DA} (he : PD X W e de) (hr : AD X W es da) (hs : starEach (e :: es) X.env = (false, eval e X.env) :: starEach es X.env := by rfl) : AD X W (e :: es) (dCons de da) :=
  paImp (pa_cons he hr hs) fun σ H Q ⟨env, M, q, E, H0, so, S, h, k, kx⟩ =>
    goE so S h kx fun x dx H1 H' M1 e1 so1 S1 rx h1 kx1 => goA so1 S1 h1 kx1 fun xs ds H2 H'' M2 e2 so2 S2 rs h2 kx2 => k _ _ H2 H'' M2 (e1.trans e2) S2 (.cons (rx.mono e2) rs) h2
/-- a value's truth -/
def truD (M : Mem) : D → Option Bool
  | .non => some false
  | .bl b => some b
  | .int i => some (i != 0)
  | .str y => if y.length ≤ 16777216 then some ((y.length : Int) != 0) else none
  | .lst xs => some (!xs.isEmpty)
  | .lsf xs => some (!xs.isEmpty)
  | .tup xs => some (!xs.isEmpty)
  | .cel c => (celL M c).map fun xs => !xs.isEmpty
  | .dic ks _ => some (!ks.isEmpty)
  | _ => none
theorem isE {K : PySem.W.Frag} {H : Hp} {vs : List V} {ds : List D} (r : DnL K H vs ds) : vs.isEmpty = ds.isEmpty := by cases r <;> rfl
theorem SD.tru {K : PySem.W.Frag} {H0 H : Hp} {M : Mem} (S : SD K H0 H M) {v : V} {d : D} {b : Bool} (h : Dn K H0 v d) (e : truD M d = some b) : TruV K v H b := by
  cases h with
  | non => cases e; rfl
  | bl => cases e; rfl
  | int => cases e; rfl
  | str y =>
    have e' : (if y.length ≤ 16777216 then some ((y.length : Int) != 0) else none) = some b := e
    by_cases c : y.length ≤ 16777216
    · rw [if_pos c] at e'; cases e'; exact ⟨by rw [sizeLine_eq]; exact c, rfl⟩
    · rw [if_neg c] at e'; cases e'
  | ty => cases e
  | cel c =>
    obtain ⟨xs, e1, rfl⟩ := omap (show (celL M c).map (fun xs => !xs.isEmpty) = some b from e)
    obtain ⟨_, vs, e2, r⟩ := S.cell c xs (celL_eq e1)
    exact .inl ⟨vs, SqL.of e2, by rw [isE r]⟩
  | lst h r => cases e; exact .inl ⟨_, SqL.of (S.ex _ _ h), by rw [isE r]⟩
  | lsf h r => cases e; exact .inl ⟨_, S.ex.sqL h, by rw [isE r]⟩
  | tup h r => cases e; exact .inr (.inl ⟨_, S.ex.sqT h, by rw [isE r]⟩)
  | dic h r =>
    cases e
    exact .inr (.inr ⟨_, S.ex _ _ h, by rw [List.isEmpty_map]⟩)
  | ins => cases e
@[reducible] def dTru (de : DE) : DT := fun env M q E => de env M (fun d M1 => ∃ b, truD M1 d = some b ∧ q b M1) E
theorem td_tru {e : Expr} {de : DE} (h : PD X W e de) (he : ∀ whole, isTrue e X.env whole = (do let v ← whole; standAt e.pos; holding [v] (truthy v)) := by intro _; rfl) : TD X W e (dTru de) :=
  ptImp (pt_truth h he) fun σ H Q ⟨env, M, q, E, H0, so, S, h, k, kx⟩ => goE so S h kx fun x dx H1 H' M1 e1 so1 S1 rx ⟨b, eb, w⟩ kx1 => ⟨b, S1.tru rx eb, k b H1 H' M1 e1 S1 w⟩
/-- a comparison as a test -/
@[reducible] def dTst (de : DE) : DT := fun env M q E => de env M (fun d M1 => ∃ b, d = .bl b ∧ q b M1) E
theorem lift_tst {K : PySem.W.Frag} {de : DE} {te : TE} (z : ∀ σ H Q, liftE K W de σ H Q → te σ H Q) : ∀ σ H Q, liftT K W (dTst de) σ H Q → tTest te σ H Q := fun σ H Q ⟨env, M, q, E, H0, so, S, h, k, kx⟩ =>
  z _ _ _ (goE so S h kx fun x dx H1 H' M1 e1 so1 S1 rx ⟨b, eb, w⟩ kx1 => by subst eb; exact ⟨b, rx.inv_bl, k b H1 H' M1 e1 S1 w⟩)
theorem td_cmp {op : CmpOp} {rd : RD2} {a b : Expr} {da db : DE} {pos : Pos} (ho : OpD X (compareOp op) rd) (ha : PD X W a da) (hb : PD X W b db) (hm : behindInMarks op b = false) : TD X W (.Compare a [op] [b] pos) (dTst (dOp rd da db)) := by
  obtain ⟨r, o, z⟩ := ho
  exact ptImp (pt_cmpR o ha hb hm) (lift_tst (lift_op z))
/-- x is None, is not None -/
def isNon : D → Bool
  | .non => true
  | _ => false
@[reducible] def dIsN (de : DE) : DE := fun env M q E => de env M (fun d M1 => q (.bl (isNon d)) M1) E
@[reducible] def dNotN (de : DE) : DE := fun env M q E => de env M (fun d M1 => q (.bl (!isNon d)) M1) E
theorem isN_dn {K : PySem.W.Frag} {H : Hp} {v : V} {d : D} (h : Dn K H v d) : decide (v = .non) = isNon d := by
  cases h <;> first
    | exact decide_eq_true rfl
    | exact decide_eq_false (fun z => nomatch z)
theorem pc_isN' {a : Expr} {da : DE} {j pos'} (ha : PD X W a da) : PC X .Is a (.Constant .none j pos') (liftE X.K W (dIsN da)) := ⟨fun pins s σ H Q I ⟨env, M, q, E, H0, so, S, h, k, kx⟩ =>
  (pc_isN ha).run pins s σ H Q I (goE so S h kx fun x dx H1 H' M1 e1 so1 S1 rx w kx1 => by rw [isN_dn rx]; exact k _ _ H1 H' M1 e1 S1 (.bl _) w)⟩
theorem pc_notN' {a : Expr} {da : DE} {j pos'} (ha : PD X W a da) : PC X .IsNot a (.Constant .none j pos') (liftE X.K W (dNotN da)) := ⟨fun pins s σ H Q I ⟨env, M, q, E, H0, so, S, h, k, kx⟩ =>
  (pc_notN ha).run pins s σ H Q I (goE so S h kx fun x dx H1 H' M1 e1 so1 S1 rx w kx1 => by
    rw [isN_dn rx]; exact k _ _ H1 H' M1 e1 S1 (.bl _) w)⟩
theorem pd_notN {a : Expr} {da : DE} {j pos' pos} (ha : PD X W a da) : PD X W (.Compare a [.IsNot] [.Constant .none j pos'] pos) (dNotN da) := pe_cmp (pc_notN' ha)
theorem lift_tB {K : PySem.W.Frag} {de : DE} {te : TE} (z : ∀ σ H Q, liftE K W de σ H Q → te σ H Q) : ∀ σ H Q, liftT K W (dTst de) σ H Q → tB te σ H Q := fun σ H Q ⟨env, M, q, E, H0, so, S, h, k, kx⟩ =>
  z _ _ _ (goE so S h kx fun x dx H1 H' M1 e1 so1 S1 rx ⟨b, eb, w⟩ kx1 => by subst eb; exact ⟨b, rx.inv_bl, k b H1 H' M1 e1 S1 w⟩)
theorem td_isN {a : Expr} {da : DE} {j pos' pos} (ha : PD X W a da) : TD X W (.Compare a [.Is] [.Constant .none j pos'] pos) (dTst (dIsN da)) := ptImp (pt_cmp (pc_isN' ha)) (lift_tB fun _ _ _ h => h)
theorem td_notN {a : Expr} {da : DE} {j pos' pos} (ha : PD X W a da) : TD X W (.Compare a [.IsNot] [.Constant .none j pos'] pos) (dTst (dNotN da)) := ptImp (pt_cmp (pc_notN' ha)) (lift_tB fun _ _ _ h => h)
/-- chains -/
@[reducible] def dChn (r r' : RD2) (da db dc : DE) : DE := fun env M q E => da env M (fun x M1 => db env M1 (fun y M2 => r x y M2 (fun z M3 => ∃ b, z = .bl b ∧ if b = true then dc env M3 (fun w M4 => r' y w M4 q) E else q (.bl false) M3)) E) E
theorem lift_chn {K : PySem.W.Frag} {rd rd' : RD2} {r r' : R2} {da db dc : DE} (z : ∀ H0 H M x y dx dy q Q, SD K H0 H M → Dn K H0 x dx → Dn K H0 y dy → rd dx dy M q → KQ K H0 q Q → r x y H Q)
    (z' : ∀ H0 H M x y dx dy q Q, SD K H0 H M → Dn K H0 x dx → Dn K H0 y dy → rd' dx dy M q → KQ K H0 q Q → r' x y H Q) : ∀ σ H Q, liftE K W (dChn rd rd' da db dc) σ H Q → tChain r r' (liftE K W da) (liftE K W db) (liftE K W dc) σ H Q := fun σ H Q ⟨env, M, q, E, H0, so, S, h, k, kx⟩ =>
  goE so S h kx fun x dx H1 H' M1 e1 so1 S1 rx h1 kx1 => goE so1 S1 h1 kx1 fun y dy H2 H'' M2 e2 so2 S2 ry h2 kx2 => z H2 H'' M2 x y dx dy _ _ S2 (rx.mono e2) ry h2 fun v d H3 H3' M3 e3 S3 rz ⟨b, eb, w⟩ => by
    subst eb
    refine ⟨b, rz.inv_bl, ?_⟩
    cases b with
    | true =>
      refine iteT ?_
      exact goE (so2.mono e3) S3 (show dc env M3 _ E from w) (kx2.mono e3) fun u du H4 H4' M4 e4 so4 S4 ru w4 kx4 => z' H4 H4' M4 y u dy du q Q S4 (ry.mono (e3.trans e4)) ru w4 (k.mono (((e1.trans e2).trans e3).trans e4))
    | false =>
      refine iteF ?_
      exact k _ _ H3 H3' M3 ((e1.trans e2).trans e3) S3 (.bl false) w
theorem pd_chn {op op' : CmpOp} {rd rd' : RD2} {a b c : Expr} {da db dc : DE} {pos : Pos} (ho : OpD X (compareOp op) rd) (ho' : OpD X (compareOp op') rd') (ha : PD X W a da) (hb : PD X W b db) (hc : PD X W c dc)
    (hm : lastMarks [op, op'] [b, c] = false := by with_unfolding_all rfl) : PD X W (.Compare a [op, op'] [b, c] pos) (dChn rd rd' da db dc) := by
  obtain ⟨r, o, z⟩ := ho
  obtain ⟨r', o', z'⟩ := ho'
  exact peImp (pe_chain o o' ha hb hc hm) (lift_chn z z')
theorem td_chn {op op' : CmpOp} {rd rd' : RD2} {a b c : Expr} {da db dc : DE} {pos : Pos} (ho : OpD X (compareOp op) rd) (ho' : OpD X (compareOp op') rd') (ha : PD X W a da) (hb : PD X W b db) (hc : PD X W c dc)
    (hm : lastMarks [op, op'] [b, c] = false := by with_unfolding_all rfl) : TD X W (.Compare a [op, op'] [b, c] pos) (dTst (dChn rd rd' da db dc)) := by
  obtain ⟨r, o, z⟩ := ho
  obtain ⟨r', o', z'⟩ := ho'
  exact ptImp (pt_chain o o' ha hb hc hm) (lift_tst (lift_chn z z'))
/-- and, or, not as tests -/
def WD (X : Cx) (W : WX) (e : Expr) (dt : DT) : Prop := PW X e (liftT X.K W dt)
@[reducible] def dAnd (a b : DT) : DT := fun env M q E => a env M (fun c M1 => if c = true then b env M1 q E else q false M1) E
@[reducible] def dOr (a b : DT) : DT := fun env M q E => a env M (fun c M1 => if c = true then q true M1 else b env M1 q E) E
@[reducible] def dNot (a : DT) : DT := fun env M q E => a env M (fun c M1 => q (!c) M1) E
theorem pwImp {e : Expr} {t t' : TT} (h : PW X e t) (i : ∀ σ H Q, t' σ H Q → t σ H Q) : PW X e t' := ⟨fun w pins s σ H Q I q => h.run w pins s σ H Q I (i σ H Q q)⟩
theorem lift_and {K : PySem.W.Frag} {a b : DT} : ∀ σ H Q, liftT K W (dAnd a b) σ H Q → tAnd (liftT K W a) (liftT K W b) σ H Q := fun σ H Q ⟨env, M, q, E, H0, so, S, h, k, kx⟩ =>
  goT so S h kx fun c H1 H' M1 e1 so1 S1 h1 kx1 => by
    cases c with
    | true => exact iteT ⟨env, M1, q, E, H1, so1, S1, h1, k.mono e1, kx1⟩
    | false => exact iteF (k false H1 H' M1 e1 S1 h1)
theorem lift_or {K : PySem.W.Frag} {a b : DT} : ∀ σ H Q, liftT K W (dOr a b) σ H Q → tOr (liftT K W a) (liftT K W b) σ H Q := fun σ H Q ⟨env, M, q, E, H0, so, S, h, k, kx⟩ =>
  goT so S h kx fun c H1 H' M1 e1 so1 S1 h1 kx1 => by
    cases c with
    | true => exact iteT (k true H1 H' M1 e1 S1 h1)
    | false => exact iteF ⟨env, M1, q, E, H1, so1, S1, h1, k.mono e1, kx1⟩
theorem wd_and1 {a : Expr} {da : DT} {pos : Pos} (h : TD X W a da) : WD X W (.BoolOp .And [a] pos) da := pw_and1 h
theorem wd_or1 {a : Expr} {da : DT} {pos : Pos} (h : TD X W a da) : WD X W (.BoolOp .Or [a] pos) da := pw_or1 h
theorem wd_and {a b : Expr} {rest : List Expr} {da db : DT} {pos : Pos} (h : TD X W a da) (h' : WD X W (.BoolOp .And (b :: rest) pos) db) : WD X W (.BoolOp .And (a :: b :: rest) pos) (dAnd da db) := pwImp (pw_and h h') lift_and
theorem wd_or {a b : Expr} {rest : List Expr} {da db : DT} {pos : Pos} (h : TD X W a da) (h' : WD X W (.BoolOp .Or (b :: rest) pos) db) : WD X W (.BoolOp .Or (a :: b :: rest) pos) (dOr da db) := pwImp (pw_or h h') lift_or
theorem td_w {e : Expr} {dt : DT} (h : WD X W e dt) : TD X W e dt := PW.pt h
theorem td_not {a : Expr} {da : DT} {pos : Pos} (h : TD X W a da) : TD X W (.UnaryOp .Not a pos) (dNot da) := ptImp (pt_not h) fun σ H Q ⟨env, M, q, E, H0, so, S, h, k, kx⟩ =>
  goT so S h kx fun c H1 H' M1 e1 so1 S1 h1 kx1 => k _ H1 H' M1 e1 S1 h1
/-- as values, all but the last True or False -/
@[reducible] def dAndV (a b : DE) : DE := fun env M q E => a env M (fun x M1 => ∃ c, x = .bl c ∧ if c = true then b env M1 q E else q (.bl false) M1) E
@[reducible] def dOrV (a b : DE) : DE := fun env M q E => a env M (fun x M1 => ∃ c, x = .bl c ∧ if c = true then q (.bl true) M1 else b env M1 q E) E
@[reducible] def dNotV (a : DE) : DE := fun env M q E => a env M (fun x M1 => ∃ c, x = .bl c ∧ q (.bl (!c)) M1) E
theorem pd_one {op} {a : Expr} {da : DE} {pos : Pos} (h : PD X W a da) : PD X W (.BoolOp op [a] pos) da := pe_one h
theorem pd_and {a b : Expr} {rest : List Expr} {da db : DE} {pos : Pos} (h : PD X W a da) (h' : PD X W (.BoolOp .And (b :: rest) pos) db) : PD X W (.BoolOp .And (a :: b :: rest) pos) (dAndV da db) :=
  peImp (pe_and h h') fun σ H Q ⟨env, M, q, E, H0, so, S, h, k, kx⟩ => goE so S h kx fun x dx H1 H' M1 e1 so1 S1 rx ⟨c, ec, w⟩ kx1 => by
    subst ec
    refine ⟨c, rx.inv_bl, ?_⟩
    cases c with
    | true => exact iteT ⟨env, M1, q, E, H1, so1, S1, w, k.mono e1, kx1⟩
    | false => exact iteF (k _ _ H1 H' M1 e1 S1 (.bl false) w)
theorem pd_or {a b : Expr} {rest : List Expr} {da db : DE} {pos : Pos} (h : PD X W a da) (h' : PD X W (.BoolOp .Or (b :: rest) pos) db) : PD X W (.BoolOp .Or (a :: b :: rest) pos) (dOrV da db) :=
  peImp (pe_or h h') fun σ H Q ⟨env, M, q, E, H0, so, S, h, k, kx⟩ => goE so S h kx fun x dx H1 H' M1 e1 so1 S1 rx ⟨c, ec, w⟩ kx1 => by
    subst ec
    refine ⟨c, rx.inv_bl, ?_⟩
    cases c with
    | true => exact iteT (k _ _ H1 H' M1 e1 S1 (.bl true) w)
    | false => exact iteF ⟨env, M1, q, E, H1, so1, S1, w, k.mono e1, kx1⟩
theorem pd_not {a : Expr} {da : DE} {pos : Pos} (h : PD X W a da) : PD X W (.UnaryOp .Not a pos) (dNotV da) :=
  peImp (pe_not h) fun σ H Q ⟨env, M, q, E, H0, so, S, h, k, kx⟩ => goE so S h kx fun x dx H1 H' M1 e1 so1 S1 rx ⟨c, ec, w⟩ kx1 => by
    subst ec
    exact ⟨c, rx.inv_bl, k _ _ H1 H' M1 e1 S1 (.bl _) w⟩
@[reducible] def dIf (t : DT) (a b : DE) : DE := fun env M q E => t env M (fun c M1 => if c = true then a env M1 q E else b env M1 q E) E
theorem pd_if {c a b : Expr} {dt : DT} {da db : DE} {pos : Pos} (hc : TD X W c dt) (ha : PD X W a da) (hb : PD X W b db) : PD X W (.IfExp c a b pos) (dIf dt da db) :=
  peImp (pe_ifExp hc ha hb) fun σ H Q ⟨env, M, q, E, H0, so, S, h, k, kx⟩ => goT so S h kx fun c H1 H' M1 e1 so1 S1 h1 kx1 => by
    cases c with
    | true => exact iteT ⟨env, M1, q, E, H1, so1, S1, h1, k.mono e1, kx1⟩
    | false => exact iteF ⟨env, M1, q, E, H1, so1, S1, h1, k.mono e1, kx1⟩
@[reducible] def dTup (da : DA) : DE := fun env M q E => da env M (fun ds M1 => ds.length ≤ sizeLine ∧ q (.tup ds) M1) E
@[reducible] def dLst (da : DA) : DE := fun env M q E => da env M (fun ds M1 => ds.length ≤ sizeLine ∧ q (.lst ds) M1) E
/-- a list that will change -/
@[reducible] def dLstC (da : DA) : DE := fun env M q E => da env M (fun ds M1 => ds.length ≤ sizeLine ∧ ∀ a, M1 a = none → q (.cel a) (mset M1 a (.ls ds))) E
theorem pd_tup {es : List Expr} {da : DA} {x1 pos} (h : AD X W es da) : PD X W (.Tuple es x1 pos) (dTup da) := peImp (pe_tup h) fun σ H Q ⟨env, M, q, E, H0, so, S, h, k, kx⟩ =>
  goA so S h kx fun xs ds H1 H' M1 e1 so1 S1 rs ⟨z, w⟩ kx1 => ⟨by rw [rs.length]; exact z, (k.mono e1).newT S1 rs w⟩
theorem pd_lst {es : List Expr} {da : DA} {pos} (h : AD X W es da) : PD X W (.List es pos) (dLst da) := peImp (pe_lst h) fun σ H Q ⟨env, M, q, E, H0, so, S, h, k, kx⟩ =>
  goA so S h kx fun xs ds H1 H' M1 e1 so1 S1 rs ⟨z, w⟩ kx1 => ⟨by rw [rs.length]; exact z, (k.mono e1).newL S1 rs w⟩
theorem pd_lstC {es : List Expr} {da : DA} {pos} (h : AD X W es da) : PD X W (.List es pos) (dLstC da) := peImp (pe_lst h) fun σ H Q ⟨env, M, q, E, H0, so, S, h, k, kx⟩ =>
  goA so S h kx fun xs ds H1 H' M1 e1 so1 S1 rs ⟨z, w⟩ kx1 => ⟨by rw [rs.length]; exact z, (k.mono e1).newC S1 rs w⟩
theorem lift_CB {K : PySem.W.Frag} {rd : RDL} {r : List V → Hp → VK → Prop} {da : DA} (z : ∀ H0 H M xs ds q Q, SD K H0 H M → DnL K H0 xs ds → rd ds M q → KQ K H0 q Q → r xs H Q) : ∀ σ H Q, liftE K W (dCB rd da) σ H Q → tCB r (liftA K W da) σ H Q :=
  fun σ H Q ⟨env, M, q, E, H0, so, S, h, k, kx⟩ => goA so S h kx fun xs ds H1 H' M1 e1 so1 S1 rs w kx1 => z H1 H' M1 xs ds q Q S1 rs w (k.mono e1)
theorem pd_callB {x : Str} {p pos : Pos} {e : Expr} {es : List Expr} {da : DA} {id : String} {rd : RDL} (hc : CallD X (.builtin id) rd) (hg : Gl X x) (hm : X.mg x = none) (hv : bootBuiltins x = some (.builtin id)) (ha : AD X W (e :: es) da) (hn : x ≠ "__name__" := by decide) (hdb : (x == ("__debug__" : Str)) = false := by decide)
    (he : starEach (e :: es) X.env = (false, eval e X.env) :: starEach es X.env := by rfl) (hpl : (backTo pos (starEach es X.env)).any (·.1) = false := by rfl) : PD X W (.Call (.Name x p) (e :: es) [] pos) (dCB rd da) := by
  obtain ⟨r, o, z⟩ := hc
  exact peImp (pe_callB o hg hm hv ha hn hdb he hpl) (lift_CB z)
theorem pd_callTy {x : Str} {p pos : Pos} {e : Expr} {es : List Expr} {da : DA} {T : String} {rd : RDL} (hc : CallD X (.type T) rd) (hg : Gl X x) (hm : X.mg x = none) (hv : bootBuiltins x = some (.type T)) (ha : AD X W (e :: es) da) (hn : x ≠ "__name__" := by decide) (hdb : (x == ("__debug__" : Str)) = false := by decide)
    (he : starEach (e :: es) X.env = (false, eval e X.env) :: starEach es X.env := by rfl) (hpl : (backTo pos (starEach es X.env)).any (·.1) = false := by rfl) : PD X W (.Call (.Name x p) (e :: es) [] pos) (dCB rd da) := by
  obtain ⟨r, o, z⟩ := hc
  exact peImp (pe_callTy o hg hm hv ha hn hdb he hpl) (lift_CB z)
/-- len -/
def rdLen : RDL := fun ds M q => ∃ d, ds = [d] ∧ match d with
  | .str z => z.length ≤ sizeLine ∧ q (.int z.length) M
  | d => ∃ xs, seqOf M d = some xs ∧ q (.int xs.length) M
theorem dnl1 {K : PySem.W.Frag} {H : Hp} {vs : List V} {d : D} (h : DnL K H vs [d]) : ∃ v, vs = [v] ∧ Dn K H v d := by
  cases h with
  | cons a r => cases r; exact ⟨_, rfl, a⟩
theorem dnl2 {K : PySem.W.Frag} {H : Hp} {vs : List V} {d e : D} (h : DnL K H vs [d, e]) : ∃ v w, vs = [v, w] ∧ Dn K H v d ∧ Dn K H w e := by
  cases h with
  | cons a r => obtain ⟨w, rfl, b⟩ := dnl1 r; exact ⟨_, w, rfl, a, b⟩
theorem cd_lenQ : CallD X (.builtin "len") (fun ds M q => ∃ d xs, ds = [d] ∧ seqOf M d = some xs ∧ q (.int xs.length) M) := ⟨_, call_len_seq, fun H0 H M xs ds q Q S r w k => by
  obtain ⟨d, ys, rfl, e, w⟩ := w
  obtain ⟨v, rfl, rv⟩ := dnl1 r
  obtain ⟨a, vs, rfl, hs, rs⟩ := S.seq rv e
  exact ⟨a, vs, rfl, hs, by rw [rs.length]; exact k.here S (.int _) w⟩⟩
theorem cd_lenS : CallD X (.builtin "len") (fun ds M q => ∃ z, ds = [.str z] ∧ z.length ≤ sizeLine ∧ q (.int z.length) M) := ⟨_, call_len_str, fun H0 H M xs ds q Q S r w k => by
  obtain ⟨z, rfl, e, w⟩ := w
  obtain ⟨v, rfl, rv⟩ := dnl1 r
  cases rv
  exact ⟨z, rfl, e, k.here S (.int _) w⟩⟩
theorem cd_len : CallD X (.builtin "len") rdLen := (cd_lenS.or cd_lenQ).imp fun ds M q ⟨d, e, h⟩ => by
  subst e
  cases d <;> first
    | exact .inl ⟨_, rfl, h.1, h.2⟩
    | exact .inr ⟨_, h.choose, rfl, h.choose_spec.1, h.choose_spec.2⟩
/-- list(x), frozen or to be changed; tuple(x) -/
def rdList : RDL := fun ds M q => ∃ d xs, ds = [d] ∧ seqOf M d = some xs ∧ q (.lst xs) M
theorem cd_list : CallD X (.type "list") rdList := ⟨_, call_list_of, fun H0 H M xs ds q Q S r w k => by
  obtain ⟨d, ys, rfl, e, w⟩ := w
  obtain ⟨v, rfl, rv⟩ := dnl1 r
  obtain ⟨a, vs, rfl, hs, rs⟩ := S.seq rv e
  exact ⟨a, vs, rfl, hs, k.newL S rs w⟩⟩
def rdTuple : RDL := fun ds M q => ∃ d xs, ds = [d] ∧ seqOf M d = some xs ∧ q (.tup xs) M
theorem cd_tuple : CallD X (.type "tuple") rdTuple := ⟨_, call_tuple_of, fun H0 H M xs ds q Q S r w k => by
  obtain ⟨d, ys, rfl, e, w⟩ := w
  obtain ⟨v, rfl, rv⟩ := dnl1 r
  cases rv with
  | tup h rs => cases e; exact ⟨_, _, rfl, .inr ⟨S.ex.sqT h, k.here S (.tup h rs) w⟩⟩
  | lst h rs => cases e; exact ⟨_, _, rfl, .inl ⟨SqL.of (S.ex _ _ h), k.newT S rs w⟩⟩
  | lsf h rs => cases e; exact ⟨_, _, rfl, .inl ⟨S.ex.sqL h, k.newT S rs w⟩⟩
  | cel c =>
    obtain ⟨_, vs, e2, rs⟩ := S.cell c ys (celL_eq e)
    exact ⟨_, _, rfl, .inl ⟨SqL.of e2, k.newT S rs w⟩⟩
  | _ => cases e⟩
def rdAbs : RDL := fun ds M q => match ds with
  | [.int i] => q (.int (if i < 0 then -i else i)) M
  | _ => False
theorem cd_abs : CallD X (.builtin "abs") rdAbs := ⟨_, call_abs, fun H0 H M xs ds q Q S r w k => by
  unfold rdAbs at w
  split at w
  · obtain ⟨v, rfl, rv⟩ := dnl1 r
    cases rv
    exact ⟨_, rfl, k.here S (.int _) w⟩
  · exact False.elim w⟩
def rdInt : RDL := fun ds M q => match ds with
  | [.int i] => q (.int i) M
  | [.bl b] => q (.int (if b then 1 else 0)) M
  | _ => False
theorem cd_int : CallD X (.type "int") rdInt := ⟨_, call_int1, fun H0 H M xs ds q Q S r w k => by
  unfold rdInt at w
  split at w
  · obtain ⟨v, rfl, rv⟩ := dnl1 r
    cases rv
    exact .inl ⟨_, rfl, k.here S (.int _) w⟩
  · obtain ⟨v, rfl, rv⟩ := dnl1 r
    cases rv
    exact .inr ⟨_, rfl, k.here S (.int _) w⟩
  · exact False.elim w⟩
def rdMin2 : RDL := fun ds M q => match ds with
  | [.int i, .int j] => q (.int (if j < i then j else i)) M
  | _ => False
theorem cd_min2 (hc : X.calm = true) : CallD X (.builtin "min") rdMin2 := ⟨_, call_min2 hc, fun H0 H M xs ds q Q S r w k => by
  unfold rdMin2 at w
  split at w
  · obtain ⟨v, u, rfl, rv, ru⟩ := dnl2 r
    cases rv; cases ru
    exact ⟨_, _, rfl, k.here S (.int _) w⟩
  · exact False.elim w⟩
def rdMax2 : RDL := fun ds M q => match ds with
  | [.int i, .int j] => q (.int (if j > i then j else i)) M
  | _ => False
theorem cd_max2 (hc : X.calm = true) : CallD X (.builtin "max") rdMax2 := ⟨_, call_max2 hc, fun H0 H M xs ds q Q S r w k => by
  unfold rdMax2 at w
  split at w
  · obtain ⟨v, u, rfl, rv, ru⟩ := dnl2 r
    cases rv; cases ru
    exact ⟨_, _, rfl, k.here S (.int _) w⟩
  · exact False.elim w⟩
def rdDivmod : RDL := fun ds M q => match ds with
  | [.int i, .int j] => CDiv i j ∧ q (.tup [.int (i / j), .int (i % j)]) M
  | _ => False
theorem cd_divmod : CallD X (.builtin "divmod") rdDivmod := ⟨_, call_divmod, fun H0 H M xs ds q Q S r w k => by
  unfold rdDivmod at w
  split at w
  · obtain ⟨v, u, rfl, rv, ru⟩ := dnl2 r
    cases rv; cases ru
    exact ⟨_, _, rfl, w.1, k.newT S (.cons (.int _) (.cons (.int _) .nil)) w.2⟩
  · exact False.elim w⟩
/-- all, any of a list of bools -/
def bls : List D → Option (List Bool)
  | [] => some []
  | .bl b :: ds => (bls ds).map (b :: ·)
  | _ => none
theorem bls_dn {K : PySem.W.Frag} {H : Hp} : ∀ {ds : List D} {vs : List V} {bs : List Bool}, DnL K H vs ds → bls ds = some bs → vs = bs.map V.bl
  | _, _, _, .nil, e => by cases e; rfl
  | _, _, _, .cons (d := .bl b) h r, e => by
    obtain ⟨cs, e1, rfl⟩ := omap (show (bls _).map (b :: ·) = some _ from e)
    rw [h.inv_bl, bls_dn r e1]; rfl
  | _, _, _, .cons (d := .non) _ _, e | _, _, _, .cons (d := .int _) _ _, e | _, _, _, .cons (d := .str _) _ _, e | _, _, _, .cons (d := .ty _) _ _, e | _, _, _, .cons (d := .lst _) _ _, e
  | _, _, _, .cons (d := .lsf _) _ _, e | _, _, _, .cons (d := .tup _) _ _, e | _, _, _, .cons (d := .dic _ _) _ _, e | _, _, _, .cons (d := .ins _ _ _) _ _, e | _, _, _, .cons (d := .cel _) _ _, e => by cases e
def rdAll : RDL := fun ds M q => ∃ d xs bs, ds = [d] ∧ (lstOf M d = some xs) ∧ bls xs = some bs ∧ q (.bl (bs.all id)) M
theorem cd_all (hc : X.calm = true) : CallD X (.builtin "all") rdAll := ⟨_, cr_all hc, fun H0 H M xs ds q Q S r w k => by
  obtain ⟨d, ys, bs, rfl, e, eb, w⟩ := w
  obtain ⟨v, rfl, rv⟩ := dnl1 r
  obtain ⟨a, vs, rfl, hs, rs⟩ := S.lst rv e
  have z := bls_dn rs eb
  subst z
  exact ⟨a, bs, rfl, SqL.of hs, k.here S (.bl _) w⟩⟩
def rdAny : RDL := fun ds M q => ∃ d xs bs, ds = [d] ∧ (lstOf M d = some xs) ∧ bls xs = some bs ∧ q (.bl (bs.any id)) M
theorem cd_any (hc : X.calm = true) : CallD X (.builtin "any") rdAny := ⟨_, cr_any hc, fun H0 H M xs ds q Q S r w k => by
  obtain ⟨d, ys, bs, rfl, e, eb, w⟩ := w
  obtain ⟨v, rfl, rv⟩ := dnl1 r
  obtain ⟨a, vs, rfl, hs, rs⟩ := S.lst rv e
  have z := bls_dn rs eb
  subst z
  exact ⟨a, bs, rfl, SqL.of hs, k.here S (.bl _) w⟩⟩
/-- repr of plain data -/
def rReprD (K : PySem.W.Frag) : List V → Hp → VK → Prop := fun xs H Q => ∃ x d, xs = [x] ∧ Dp K H x d ∧ d.showable = true ∧ d.hasDict = false ∧ d.depth ≤ 100 ∧ d.shown.length ≤ sizeLine ∧ Q (.str d.shown) H
theorem call_reprD (hg : X.A.guards = some []) (hu : X.A.units + 200 < cLine) : CallR X (.builtin "repr") (rReprD X.K) := by
  intro pins s σ H xs us Q I r h
  obtain ⟨x, d, rfl, hd, hs, hh, hdp, hz, q⟩ := h
  obtain ⟨u, rfl, rx⟩ := vals1 r
  obtain ⟨as, rd⟩ := Dp.reads I d x u hd rx
  have fin : ∀ (h' : Heap) (t : Tok) (tk : Nat), (∀ b o, s.heap.get? b = some o → h'.get? b = some o) → EP X pins σ Q (.str d.shown t) { s with heap := h', toks := tk } := fun h' t tk k => ⟨.str d.shown, H, I.kept k, ⟨t, rfl⟩, q⟩
  cases hd with
  | non => cases rx; exact PySem.P.repr_of_none ⟨.str _, H, I.tok _, ⟨_, rfl⟩, q⟩
  | bl b => cases rx; exact PySem.P.repr_of_bool ⟨.str _, H, I.tok _, ⟨_, rfl⟩, q⟩
  | int i =>
    obtain ⟨t, rfl⟩ := rx
    exact PySem.P.repr_of_int (of_decide_eq_true hs) ⟨.str _, H, I.tok _, ⟨_, rfl⟩, q⟩
  | str z =>
    obtain ⟨t, rfl⟩ := rx
    exact PySem.P.repr_of_str (hsz := hz) ⟨.str _, H, I.tok _, ⟨_, rfl⟩, q⟩
  | lst _ _ => cases rx; exact repr_of_reads' rd hs (PyData.noDict_hsm hh) hg (by omega) (fun _ _ e => e) (fun h' t tk k => fin h' t tk k) hz
  | tup _ _ => cases rx; exact repr_of_reads' rd hs (PyData.noDict_hsm hh) hg (by omega) (fun _ _ e => e) (fun h' t tk k => fin h' t tk k) hz
/-- what may be shown -/
def showOk (p : PyData) : Prop := p.showable = true ∧ p.hasDict = false ∧ p.depth ≤ 100 ∧ p.shown.length ≤ sizeLine
end
section
variable {X : Cx} {W : WX}
def IxD (X : Cx) (rd : RD2) : Prop := ∃ r, IxR X r ∧ ∀ H0 H M x y dx dy q Q, SD X.K H0 H M → Dn X.K H0 x dx → Dn X.K H0 y dy → rd dx dy M q → KQ X.K H0 q Q → r x y H Q
theorem IxD.or {a b : RD2} (h : IxD X a) (h' : IxD X b) : IxD X (fun x y M q => a x y M q ∨ b x y M q) := by
  obtain ⟨r, o, z⟩ := h
  obtain ⟨r', o', z'⟩ := h'
  exact ⟨_, o.or o', fun H0 H M x y dx dy q Q S hx hy w k => w.elim (fun w => .inl (z H0 H M x y dx dy q Q S hx hy w k)) fun w => .inr (z' H0 H M x y dx dy q Q S hx hy w k)⟩
theorem IxD.imp {a b : RD2} (h : IxD X a) (i : ∀ x y M q, b x y M q → a x y M q) : IxD X b := by
  obtain ⟨r, o, z⟩ := h
  exact ⟨r, o, fun H0 H M x y dx dy q Q S hx hy w k => z H0 H M x y dx dy q Q S hx hy (i _ _ _ _ w) k⟩
theorem pd_ix {rd : RD2} {a b : Expr} {da db : DE} {pos : Pos} (ho : IxD X rd) (ha : PD X W a da) (hb : PD X W b db) (hs : PlainIx b) : PD X W (.Subscript a b pos) (dOp rd da db) := by
  obtain ⟨r, o, z⟩ := ho
  exact peImp (pe_ix o ha hb hs) (lift_op z)
theorem atI_dn {K : PySem.W.Frag} {H : Hp} {vs : List V} {ds : List D} {i : Int} {d : D} (r : DnL K H vs ds) (h : atI ds i = some d) : ∃ v, atI vs i = some v ∧ Dn K H v d := by
  unfold atI at h ⊢
  rw [r.length]
  cases e : ixN ds.length i with
  | none => rw [e] at h; cases h
  | some j =>
    rw [e] at h
    obtain ⟨v, e1, rv⟩ := r.get (show ds[j]? = some d from h)
    exact ⟨v, e1, rv⟩
def rdIxQ : RD2 := fun x y M q => ∃ xs i d, seqOf M x = some xs ∧ y = .int i ∧ atI xs i = some d ∧ q d M
def rdIxS : RD2 := fun x y M q => ∃ z i c, x = .str z ∧ y = .int i ∧ z.length ≤ sizeLine ∧ atI z.cps.toList i = some c ∧ q (.str ⟨#[c]⟩) M
def rdIx : RD2 := fun x y M q => match x with
  | .str z => rdIxS (.str z) y M q
  | x => rdIxQ x y M q
theorem ixd_q : IxD X rdIxQ := ⟨_, ix_list.or ix_tup, fun H0 H M x y dx dy q Q S hx hy w k => by
  obtain ⟨xs, i, d, e, rfl, ea, w⟩ := w
  cases hy
  obtain ⟨a, vs, rfl, hs, r⟩ := S.seq hx e
  obtain ⟨v, e1, rv⟩ := atI_dn r ea
  exact hs.elim (fun hs => .inl ⟨a, vs, i, v, rfl, rfl, hs, e1, k.here S rv w⟩) fun hs => .inr ⟨a, vs, i, v, rfl, rfl, hs, e1, k.here S rv w⟩⟩
theorem ixd_s : IxD X rdIxS := ⟨_, ix_str, fun H0 H M x y dx dy q Q S hx hy w k => by
  obtain ⟨z, i, c, rfl, rfl, z1, ea, w⟩ := w
  cases hx; cases hy
  exact ⟨z, i, c, rfl, rfl, z1, ea, k.here S (.str _) w⟩⟩
theorem ixd : IxD X rdIx := (ixd_s.or ixd_q).imp fun x y M q h => by
  cases x <;> first
    | exact .inl h
    | exact .inr h
/-- slices -/
abbrev DO := EnvD → Mem → (Option Int → Mem → Prop) → XD → Prop
def liftO (K : PySem.W.Frag) (W : WX) (dO : DO) : TO := fun σ H Q => ∃ env M q E H0, SlotOk K H0 σ env ∧ SD K H0 H M ∧ dO env M q E ∧ (∀ o H0' H' M', Ext H0 H0' → SD K H0' H' M' → q o M' → Q o H') ∧ KX K H0 E fun c d => W c d σ
def OD (X : Cx) (W : WX) (e : Option Expr) (d : DO) : Prop := PO X e (liftO X.K W d)
@[reducible] def dNo : DO := fun _ M q _ => q none M
@[reducible] def dPart (de : DE) : DO := fun env M q E => de env M (fun d M1 => ∃ i, d = .int i ∧ q (some i) M1) E
theorem poImp {e : Option Expr} {t t' : TO} (h : PO X e t) (i : ∀ σ H Q, t' σ H Q → t σ H Q) : PO X e t' := ⟨fun pins s σ H Q I q => h.run pins s σ H Q I (i σ H Q q)⟩
theorem od_no : OD X W none dNo := poImp po_none fun σ H Q ⟨env, M, q, E, H0, so, S, h, k, kx⟩ => k none H0 H M (Ext.refl H0) S h
theorem od_some {e : Expr} {de : DE} (h : PD X W e de) : OD X W (some e) (dPart de) := poImp (po_some h) fun σ H Q ⟨env, M, q, E, H0, so, S, h, k, kx⟩ =>
  goE so S h kx fun x dx H1 H' M1 e1 so1 S1 rx ⟨i, ei, w⟩ kx1 => by subst ei; exact ⟨i, rx.inv_int, k _ H1 H' M1 e1 S1 w⟩
theorem goO {K : PySem.W.Frag} {de : DO} {σ : L2.St} {H H0 : Hp} {env : EnvD} {M : Mem} {q : Option Int → Mem → Prop} {E : XD} {Q : Option Int → Hp → Prop} (so : SlotOk K H0 σ env) (S : SD K H0 H M) (h : de env M q E) (kx : KX K H0 E fun c d => W c d σ)
    (k : ∀ b H0' H' M', Ext H0 H0' → SlotOk K H0' σ env → SD K H0' H' M' → q b M' → (KX K H0' E fun c d => W c d σ) → Q b H') : liftO K W de σ H Q :=
  ⟨env, M, q, E, H0, so, S, h, fun b H0' H' M' e S' z => k b H0' H' M' e (so.mono e) S' z (kx.mono e), kx⟩
abbrev RDS := D → Option Int → Option Int → Mem → QD → Prop
def SlD (X : Cx) (rd : RDS) : Prop := ∃ r, SlR X r ∧ ∀ H0 H M x dx lo hi q Q, SD X.K H0 H M → Dn X.K H0 x dx → rd dx lo hi M q → KQ X.K H0 q Q → r x lo hi H Q
theorem SlD.or {a b : RDS} (h : SlD X a) (h' : SlD X b) : SlD X (fun x l u M q => a x l u M q ∨ b x l u M q) := by
  obtain ⟨r, o, z⟩ := h
  obtain ⟨r', o', z'⟩ := h'
  exact ⟨_, o.or o', fun H0 H M x dx l u q Q S hx w k => w.elim (fun w => .inl (z H0 H M x dx l u q Q S hx w k)) fun w => .inr (z' H0 H M x dx l u q Q S hx w k)⟩
theorem SlD.imp {a b : RDS} (h : SlD X a) (i : ∀ x l u M q, b x l u M q → a x l u M q) : SlD X b := by
  obtain ⟨r, o, z⟩ := h
  exact ⟨r, o, fun H0 H M x dx l u q Q S hx w k => z H0 H M x dx l u q Q S hx (i _ _ _ _ _ w) k⟩
@[reducible] def dSl (rd : RDS) (de : DE) (dl du : DO) : DE := fun env M q E => de env M (fun x M1 => dl env M1 (fun l M2 => du env M2 (fun u M3 => rd x l u M3 q) E) E) E
theorem pd_slice {rd : RDS} {e : Expr} {lo hi : Option Expr} {de : DE} {dl du : DO} {p2 pos : Pos} (hr : SlD X rd) (he : PD X W e de) (hl : OD X W lo dl) (hu : OD X W hi du) : PD X W (.Subscript e (.Slice lo hi none p2) pos) (dSl rd de dl du) := by
  obtain ⟨r, o, z⟩ := hr
  exact peImp (pe_slice o he hl hu) fun σ H Q ⟨env, M, q, E, H0, so, S, h, k, kx⟩ => goE so S h kx fun x dx H1 H' M1 e1 so1 S1 rx h1 kx1 => goO so1 S1 h1 kx1 fun l H2 H2' M2 e2 so2 S2 h2 kx2 => goO so2 S2 h2 kx2 fun u H3 H3' M3 e3 so3 S3 h3 kx3 =>
    z H3 H3' M3 x dx l u q Q S3 (rx.mono (e2.trans e3)) h3 (k.mono ((e1.trans e2).trans e3))
def cutD {α : Type} (xs : List α) (lo hi : Option Int) : List α := (xs.drop (HT.sIx xs.length 0 lo)).take (HT.sIx xs.length xs.length hi - HT.sIx xs.length 0 lo)
theorem cut_dn {K : PySem.W.Frag} {H : Hp} {vs : List V} {ds : List D} {lo hi : Option Int} (r : DnL K H vs ds) : DnL K H (cutV vs lo hi) (cutD ds lo hi) := by
  unfold cutV cutD
  rw [r.length]
  exact (r.drop _).take _
def rdSlL : RDS := fun x lo hi M q => ∃ xs, lsqOf M x = some xs ∧ q (.lst (cutD xs lo hi)) M
def rdSlT : RDS := fun x lo hi M q => ∃ xs, x = .tup xs ∧ q (.tup (cutD xs lo hi)) M
def rdSlS : RDS := fun x lo hi M q => ∃ z, x = .str z ∧ z.length ≤ sizeLine ∧ q (.str (cutS z lo hi)) M
def rdSl : RDS := fun x lo hi M q => match x with
  | .str z => z.length ≤ sizeLine ∧ q (.str (cutS z lo hi)) M
  | .tup xs => q (.tup (cutD xs lo hi)) M
  | x => ∃ xs, lsqOf M x = some xs ∧ q (.lst (cutD xs lo hi)) M
theorem sld_l : SlD X rdSlL := ⟨_, sl_list, fun H0 H M x dx lo hi q Q S hx w k => by
  obtain ⟨xs, e, w⟩ := w
  obtain ⟨a, vs, rfl, hs, r⟩ := S.lsq hx e
  exact ⟨a, vs, rfl, hs, k.newL S (cut_dn r) w⟩⟩
theorem whole_cut {α : Type} {xs : List α} {lo hi : Option Int} (h : HT.sIx xs.length 0 lo = 0 ∧ HT.sIx xs.length xs.length hi = xs.length) : cutD xs lo hi = xs := by
  unfold cutD
  rw [h.1, h.2]
  simp
theorem sld_t : SlD X rdSlT := ⟨_, sl_tupA, fun H0 H M x dx lo hi q Q S hx w k => by
  obtain ⟨xs, rfl, w⟩ := w
  cases hx with
  | tup h r =>
    refine ⟨_, _, rfl, S.ex.sqT h, fun c => ?_, fun _ => k.newT S (cut_dn r) w⟩
    rw [r.length] at c
    rw [whole_cut c] at w
    exact k.here S (.tup h r) w⟩
theorem sld_s : SlD X rdSlS := ⟨_, sl_str, fun H0 H M x dx lo hi q Q S hx w k => by
  obtain ⟨z, rfl, z1, w⟩ := w
  cases hx
  exact ⟨_, rfl, z1, k.here S (.str _) w⟩⟩
theorem sld : SlD X rdSl := (sld_l.or (sld_t.or sld_s)).imp fun x l u M q h => by
  cases x <;> first
    | exact .inr (.inr ⟨_, rfl, h.1, h.2⟩)
    | exact .inr (.inl ⟨_, rfl, h⟩)
    | exact .inl h
end
end DL
set_option maxRecDepth 100000
set_option maxHeartbeats 4000000
namespace DL
open PySem PySem.Spec PyProof.Rows L2
structure ItOk (K : PySem.W.Frag) (H0 : Hp) (J : It) (items : List D) (ok : Mem → Prop) : Prop where
  go : ∀ H0' H M i d, Ext H0 H0' → SD K H0' H M → ok M → items[i]? = some d → J.go i H ∧ ∀ x H', J.yld i H x H' → ∃ H2, Ext H0' H2 ∧ SD K H2 H' M ∧ Dn K H2 x d
  stop : ∀ H0' H M i, Ext H0 H0' → SD K H0' H M → ok M → items.length ≤ i → J.stop i H
abbrev DI := EnvD → Mem → (List D → (Mem → Prop) → Mem → Prop) → XD → Prop
def liftI (K : PySem.W.Frag) (W : WX) (di : DI) : TI := fun σ H R => ∃ env M q E H0, SlotOk K H0 σ env ∧ SD K H0 H M ∧ di env M q E ∧
  (∀ J items ok H0' H' M', Ext H0 H0' → SD K H0' H' M' → ItOk K H0' J items ok → q items ok M' → R J H') ∧ KX K H0 E fun c d => W c d σ
def ID (X : Cx) (W : WX) (tg it : Expr) (di : DI) : Prop := PI X tg it (liftI X.K W di)
theorem piImp {X : Cx} {tg e : Expr} {t t' : TI} (h : PI X tg e t) (i : ∀ σ H Q, t' σ H Q → t σ H Q) : PI X tg e t' := ⟨fun pins s σ H Q I q => h.run pins s σ H Q I (i σ H Q q)⟩
theorem goI {K : PySem.W.Frag} {W : WX} {di : DI} {σ : L2.St} {H H0 : Hp} {env : EnvD} {M : Mem} {q : List D → (Mem → Prop) → Mem → Prop} {E : XD} {R : It → Hp → Prop} (so : SlotOk K H0 σ env) (S : SD K H0 H M) (h : di env M q E) (kx : KX K H0 E fun c d => W c d σ)
    (k : ∀ J items ok H0' H' M', Ext H0 H0' → SlotOk K H0' σ env → SD K H0' H' M' → ItOk K H0' J items ok → q items ok M' → (KX K H0' E fun c d => W c d σ) → R J H') : liftI K W di σ H R :=
  ⟨env, M, q, E, H0, so, S, h, fun J items ok H0' H' M' e S' z w => k J items ok H0' H' M' e (so.mono e) S' z w (kx.mono e), kx⟩
/-- a list or a tuple -/
def iSeq (K : PySem.W.Frag) (tl : TE) : TI := fun σ H R => tl σ H fun x H1 => ∃ a, x = .ref a ∧ (((∃ xs, SqL K H1 a xs) ∧ R (Itl K a) H1) ∨ ((∃ xs, SqT K H1 a xs) ∧ R (Itt K a) H1))
section
variable {X : Cx} {W : WX} {tg : Expr}
theorem pi_seq {l : Expr} {tl : TE} (hl : PE X l tl) : PI X tg l (iSeq X.K tl) := by
  constructor
  intro pins s σ H R I h
  refine wpAny_mono (hl.run pins s σ H _ I h) (fun v s1 hh => ?_) fun _ _ z => z
  obtain ⟨x, H1, J1, rx, a, ex, cs⟩ := hh
  subst ex
  obtain rfl : v = Value.ref a := rx
  have fp : ∀ o : Obj, ∀ b ∈ [s1.heap.objs.size], FpOk X pins H1 b := fun o b hb => by
    obtain rfl : b = s1.heap.objs.size := by simpa using hb
    exact J1.fpOk (Nat.le_refl _) (J1.hok.fresh (Nat.le_refl _))
  rcases cs with ⟨⟨xs, hq⟩, q⟩ | ⟨⟨xs, hq⟩, q⟩
  · obtain ⟨its, _, pl, _⟩ := J1.list hq
    refine wpAny_pyIter_list pl.isList ⟨_, [_], _, _, H1, rfl, J1.kept (t' := s1.toks) (fun b o e => Heap.get?_push_of_some _ e), turn_list a _, ⟨_, Heap.get?_push_size _ rfl, rfl, rfl⟩, ?_, q⟩
    exact fp default
  · obtain ⟨its, _, pl, _⟩ := J1.tuple hq
    refine wpAny_pyIter_tuple (show s1.heap.IsTuple a its.toArray from pl) ⟨_, [_], _, _, H1, rfl, J1.kept (t' := s1.toks) (fun b o e => Heap.get?_push_of_some _ e), turn_tuple a _, ⟨_, Heap.get?_push_size _ rfl, rfl, rfl⟩, ?_, q⟩
    exact fp default
@[reducible] def dIter (de : DE) : DI := fun env M q E => de env M (fun d M1 => ∃ xs, seqOf M1 d = some xs ∧ q xs (fun M' => seqOf M' d = some xs) M1) E
theorem itl_ok {K : PySem.W.Frag} {H0 : Hp} {a : Addr} {d : D} {xs : List D} (hd : Dn K H0 (.ref a) d) (hl : ∀ H0' H M, Ext H0 H0' → SD K H0' H M → seqOf M d = some xs → ∃ vs, SqL K H a vs ∧ DnL K H0' vs xs) : ItOk K H0 (Itl K a) xs (fun M => seqOf M d = some xs) where
  go := fun H0' H M i y e S ok hi => by
    obtain ⟨vs, hs, r⟩ := hl H0' H M e S ok
    obtain ⟨v, hv, rv⟩ := r.get hi
    exact ⟨⟨vs, v, hs, hv⟩, fun x H' ⟨e1, e2⟩ => by
      subst e1
      have := e2 vs hs
      rw [hv] at this
      cases this
      exact ⟨H0', Ext.refl _, S, rv⟩⟩
  stop := fun H0' H M i e S ok hi => by
    obtain ⟨vs, hs, r⟩ := hl H0' H M e S ok
    exact ⟨vs, hs, by rw [r.length]; exact hi⟩
theorem itt_ok {K : PySem.W.Frag} {H0 : Hp} {a : Addr} {xs : List D} {vs : List V} (h : SqT K H0 a vs) (r : DnL K H0 vs xs) (ok : Mem → Prop) : ItOk K H0 (Itt K a) xs ok where
  go := fun H0' H M i y e S _ hi => by
    obtain ⟨v, hv, rv⟩ := r.get hi
    have hs : SqT K H a vs := (e.trans S.ex).sqT h
    exact ⟨⟨vs, v, hs, hv⟩, fun x H' ⟨e1, e2⟩ => by
      subst e1
      have := e2 vs hs
      rw [hv] at this
      cases this
      exact ⟨H0', Ext.refl _, S, rv.mono e⟩⟩
  stop := fun H0' H M i e S _ hi => ⟨vs, (e.trans S.ex).sqT h, by rw [r.length]; exact hi⟩
theorem id_seq {e : Expr} {de : DE} (h : PD X W e de) : ID X W tg e (dIter de) := piImp (pi_seq h) fun σ H R ⟨env, M, q, E, H0, so, S, h, k, kx⟩ =>
  goE so S h kx fun x dx H1 H' M1 e1 so1 S1 rx ⟨xs, ex, w⟩ kx1 => by
    have fin : ∀ J ok, ItOk X.K H1 J xs ok → q xs ok M1 → R J H' := fun J ok z w => k J xs ok H1 H' M1 e1 S1 z w
    cases rx with
    | lst hh r =>
      cases ex
      exact ⟨_, rfl, .inl ⟨⟨_, SqL.of (S1.ex _ _ hh)⟩, fin _ _ (itl_ok (.lst hh r) fun H0' H M e S _ => ⟨_, SqL.of (S.ex _ _ (e _ _ hh)), r.mono e⟩) w⟩⟩
    | lsf hh r =>
      cases ex
      exact ⟨_, rfl, .inl ⟨⟨_, S1.ex.sqL hh⟩, fin _ _ (itl_ok (.lsf hh r) fun H0' H M e S _ => ⟨_, (e.trans S.ex).sqL hh, r.mono e⟩) w⟩⟩
    | tup hh r =>
      cases ex
      exact ⟨_, rfl, .inr ⟨⟨_, S1.ex.sqT hh⟩, fin _ _ (itt_ok hh r _) w⟩⟩
    | cel c =>
      obtain ⟨_, vs, e2, r⟩ := S1.cell c xs (celL_eq ex)
      exact ⟨_, rfl, .inl ⟨⟨vs, SqL.of e2⟩, fin _ _ (itl_ok (.cel c) fun H0' H M e S ok => by
        obtain ⟨_, ws, e3, r3⟩ := S.cell c xs (celL_eq ok)
        exact ⟨ws, SqL.of e3, r3⟩) w⟩⟩
    | _ => cases ex
/-- range(n), range(a, b) -/
def rngD (lo : Int) (n : Nat) : List D := (List.range n).map fun i => D.int (lo + (i : Nat))
theorem itr_ok {K : PySem.W.Frag} {H0 : Hp} {lo : Int} {n : Nat} (ok : Mem → Prop) : ItOk K H0 (Itr lo n) (rngD lo n) ok where
  go := fun H0' H M i y e S _ hi => by
    unfold rngD at hi
    rw [List.getElem?_map] at hi
    obtain ⟨j, hj, rfl⟩ := omap hi
    have hj2 := List.getElem?_eq_some_iff.mp hj
    obtain ⟨h1, h2⟩ := hj2
    rw [List.length_range] at h1
    rw [List.getElem_range] at h2
    subst h2
    exact ⟨h1, fun x H' ⟨e1, e2⟩ => by subst e1 e2; exact ⟨H0', Ext.refl _, S, .int _⟩⟩
  stop := fun H0' H M i e S _ hi => by
    unfold rngD at hi
    rw [List.length_map, List.length_range] at hi
    exact hi
@[reducible] def dRng1 (da : DA) : DI := fun env M q E => da env M (fun ds M1 => ∃ j : Int, ds = [.int j] ∧ (-(2 ^ 62) ≤ j ∧ j < 2 ^ 62) ∧ q (rngD 0 j.toNat) (fun _ => True) M1) E
theorem id_rng1 {a : Expr} {da : DA} {p pos : Pos} (hg : Gl X "range") (hm : X.mg "range" = none) (ha : AD X W [a] da) (hs : starEach [a] X.env = [(false, eval a X.env)] := by rfl) : ID X W tg (.Call (.Name "range" p) [a] [] pos) (dRng1 da) :=
  piImp (pi_range1 hg hm ha hs) fun σ H R ⟨env, M, q, E, H0, so, S, h, k, kx⟩ => goA so S h kx fun xs ds H1 H' M1 e1 so1 S1 rs ⟨j, ej, b, w⟩ kx1 => by
    subst ej
    obtain ⟨v, rfl, rv⟩ := dnl1 rs
    cases rv
    exact ⟨j, rfl, b.1, b.2, k _ _ _ H1 H' M1 e1 S1 (itr_ok _) w⟩
/-- a text, sign by sign -/
def strD (x : Str) : List D := x.cps.toList.map fun c => D.str ⟨#[c]⟩
theorem its_ok {K : PySem.W.Frag} {H0 : Hp} {x : Str} (ok : Mem → Prop) : ItOk K H0 (Its x) (strD x) ok where
  go := fun H0' H M i y e S _ hi => by
    unfold strD at hi
    rw [List.getElem?_map] at hi
    obtain ⟨c, hc, rfl⟩ := omap hi
    have hc' : x.cps[i]? = some c := by simpa using hc
    have hlt : i < x.cps.size := (Array.getElem?_eq_some_iff.mp hc').1
    exact ⟨hlt, fun v H' ⟨e1, c', e2, e3⟩ => by
      subst e1
      rw [hc'] at e2
      cases e2
      subst e3
      exact ⟨H0', Ext.refl _, S, .str _⟩⟩
  stop := fun H0' H M i e S _ hi => by
    unfold strD at hi
    rw [List.length_map] at hi
    show x.cps.size ≤ i
    simpa using hi
@[reducible] def dIterS (de : DE) : DI := fun env M q E => de env M (fun d M1 => ∃ x, d = .str x ∧ q (strD x) (fun _ => True) M1) E
theorem id_str {e : Expr} {de : DE} (h : PD X W e de) : ID X W tg e (dIterS de) := piImp (pi_str h) fun σ H R ⟨env, M, q, E, H0, so, S, h, k, kx⟩ =>
  goE so S h kx fun x dx H1 H' M1 e1 so1 S1 rx ⟨z, ez, w⟩ kx1 => by subst ez; exact ⟨z, rx.inv_str, k _ _ _ H1 H' M1 e1 S1 (its_ok _) w⟩
end
/-- the memory without a cell -/
def mdel (M : Mem) (c : Addr) : Mem := fun b => if b = c then none else M b
theorem mdel_mset {M : Mem} {c : Addr} {xs : Cel} (h : M c = none) : mdel (mset M c xs) c = M := by
  funext b
  unfold mdel
  by_cases e : b = c
  · subst e; rw [if_pos rfl, h]
  · rw [if_neg e, mset_ne e]
/-- exceptions at the slots as they are then -/
def KXE (K : PySem.W.Frag) (H0 : Hp) (ex : EnvD → XD) (W : WX) : Prop := ∀ H1 σ' env', Ext H0 H1 → SlotOk K H1 σ' env' → KX K H1 (ex env') fun c d => W c d σ'
theorem KXE.mono {K : PySem.W.Frag} {H0 H1 : Hp} {ex : EnvD → XD} {W : WX} (h : KXE K H0 ex W) (e : Ext H0 H1) : KXE K H1 ex W := fun H2 σ env e2 => h H2 σ env (e.trans e2)
theorem KXE.at {K : PySem.W.Frag} {H0 : Hp} {ex : EnvD → XD} {W : WX} (h : KXE K H0 ex W) {σ : L2.St} {env : EnvD} (so : SlotOk K H0 σ env) : KX K H0 (ex env) fun c d => W c d σ := h H0 σ env (Ext.refl H0) so
abbrev GD := D → EnvD → Mem → (EnvD → Mem → Prop) → (EnvD → XD) → Prop
abbrev GDs := List D → EnvD → Mem → (EnvD → Mem → Prop) → (EnvD → XD) → Prop
def KN (K : PySem.W.Frag) (H0 : Hp) (q : EnvD → Mem → Prop) (Q : L2.St → Hp → Prop) : Prop := ∀ σ' env' H0' H' M', Ext H0 H0' → SlotOk K H0' σ' env' → SD K H0' H' M' → q env' M' → Q σ' H'
theorem KN.mono {K : PySem.W.Frag} {H0 H1 : Hp} {q : EnvD → Mem → Prop} {Q : L2.St → Hp → Prop} (h : KN K H0 q Q) (e : Ext H0 H1) : KN K H1 q Q := fun σ env _ _ _ e2 => h σ env _ _ _ (e.trans e2)
def liftG (K : PySem.W.Frag) (W : WX) (gd : GD) : TG := fun v σ H Q => ∃ d env M q ex H0, Dn K H0 v d ∧ SlotOk K H0 σ env ∧ SD K H0 H M ∧ gd d env M q ex ∧ KN K H0 q Q ∧ KXE K H0 ex W
def liftGs (K : PySem.W.Frag) (W : WX) (gd : GDs) : TGs := fun vs σ H Q => ∃ ds env M q ex H0, DnL K H0 vs ds ∧ SlotOk K H0 σ env ∧ SD K H0 H M ∧ gd ds env M q ex ∧ KN K H0 q Q ∧ KXE K H0 ex W
def TgD (X : Cx) (W : WX) (e : Expr) (gd : GD) : Prop := PG X e (liftG X.K W gd)
def TgsD (X : Cx) (W : WX) (es : List Expr) (gd : GDs) : Prop := PGs X es (liftGs X.K W gd)
theorem pgImp {X : Cx} {e : Expr} {t t' : TG} (h : PG X e t) (i : ∀ v σ H Q, t' v σ H Q → t v σ H Q) : PG X e t' := ⟨fun pins s σ H v u Q I r q => h.run pins s σ H v u Q I r (i v σ H Q q)⟩
theorem pgsImp {X : Cx} {e : List Expr} {t t' : TGs} (h : PGs X e t) (i : ∀ v σ H Q, t' v σ H Q → t v σ H Q) : PGs X e t' := ⟨fun pins s σ H v u Q I r q => h.run pins s σ H v u Q I r (i v σ H Q q)⟩
section
variable {X : Cx} {W : WX}
@[reducible] def gdName (i : Nat) : GD := fun d env M q _ => q (env.set i (some d)) M
theorem gd_name {i : Nat} {x : Str} {pos : Pos} (hN : X.N.Nodup) (hi : X.N[i]? = some x := by rfl) (hx : Loc X.env.scope x := by first | exact Or.inl rfl | exact Or.inr rfl) (hf : X.fn x = true ∨ X.env.scope.names.lookup x = some .local := by first | exact .inl rfl | exact .inr rfl) :
    TgD X W (.Name x pos) (gdName i) := pgImp (pg_name hN hi hx hf) fun v σ H Q ⟨d, env, M, q, ex, H0, r, so, S, h, k, kx⟩ => k _ _ H0 H M (Ext.refl H0) (so.set i r) S h
@[reducible] def gdNil : GDs := fun ds env M q _ => ds = [] ∧ q env M
@[reducible] def gdCons (g : GD) (u : GDs) : GDs := fun ds env M q ex => ∃ d r, ds = d :: r ∧ g d env M (fun env' M' => u r env' M' q ex) ex
theorem gds_nil : TgsD X W [] gdNil := pgsImp pgs_nil fun v σ H Q ⟨ds, env, M, q, ex, H0, r, so, S, ⟨e, h⟩, k, kx⟩ => by
  subst e
  cases r
  exact ⟨rfl, k _ _ H0 H M (Ext.refl H0) so S h⟩
theorem gds_cons {e : Expr} {es : List Expr} {g : GD} {u : GDs} (h1 : TgD X W e g) (h2 : TgsD X W es u) (hs : (assignEach (e :: es) X.env).map (·.2) = assign e X.env :: (assignEach es X.env).map (·.2) := by rfl) : TgsD X W (e :: es) (gdCons g u) :=
  pgsImp (pgs_cons h1 h2 hs) fun v σ H Q ⟨ds, env, M, q, ex, H0, r, so, S, ⟨d, dr, e, h⟩, k, kx⟩ => by
    subst e
    cases r with
    | cons r rr => exact ⟨_, _, rfl, d, env, M, _, ex, H0, r, so, S, h, fun σ' env' H1 H' M' e1 so1 S1 w => ⟨dr, env', M', q, ex, H1, rr.mono e1, so1, S1, w, k.mono e1, kx.mono e1⟩, kx⟩
@[reducible] def gdTup (n : Nat) (u : GDs) : GD := fun d env M q ex => ∃ xs, d = .tup xs ∧ xs.length = n ∧ u xs env M q ex
@[reducible] def gdLst (n : Nat) (u : GDs) : GD := fun d env M q ex => ∃ xs, lsqOf M d = some xs ∧ xs.length = n ∧ u xs env M q ex
theorem gd_tup {es : List Expr} {k : Nat} {u : GDs} {n : Nat} {pos : Pos} (hc : X.calm = true) (h : TgsD X W es u) (hn : (assignEach es X.env).length = n := by rfl) (hst : (assignEach es X.env).findIdx? (·.1) = none := by rfl) : TgD X W (.Tuple es k pos) (gdTup n u) :=
  pgImp (pg_tup hc h hn hst) fun v σ H Q ⟨d, env, M, q, ex, H0, r, so, S, ⟨xs, e, hl, h⟩, k, kx⟩ => by
    subst e
    cases r with
    | tup hh rr => exact ⟨_, _, rfl, S.ex.sqT hh, by rw [rr.length]; exact hl, xs, env, M, q, ex, H0, rr, so, S, h, k, kx⟩
theorem gd_lst {es : List Expr} {k : Nat} {u : GDs} {n : Nat} {pos : Pos} (hc : X.calm = true) (h : TgsD X W es u) (hn : (assignEach es X.env).length = n := by rfl) (hst : (assignEach es X.env).findIdx? (·.1) = none := by rfl) : TgD X W (.Tuple es k pos) (gdLst n u) :=
  pgImp (pg_unl hc h hn hst) fun v σ H Q ⟨d, env, M, q, ex, H0, r, so, S, ⟨xs, e, hl, h⟩, k, kx⟩ => by
    obtain ⟨a, vs, rfl, hs, rr⟩ := S.lsq r e
    exact ⟨a, vs, rfl, hs, by rw [rr.length]; exact hl, xs, env, M, q, ex, H0, rr, so, S, h, k, kx⟩
/-- cell[i] = v -/
@[reducible] def gdSub (do_ di : DE) : GD := fun d env M q ex => do_ env M (fun o M1 => di env M1 (fun i M2 => ∃ c xs k j, o = .cel c ∧ i = .int k ∧ M2 c = some (.ls xs) ∧ ixN xs.length k = some j ∧ q env (mset M2 c (.ls (xs.set j d)))) (ex env)) (ex env)
theorem gd_sub {o i : Expr} {do_ di : DE} {pos : Pos} (ho : PD X W o do_) (hi : PD X W i di)
    (ha : ∀ v, assign (.Subscript o i pos) X.env v = (do let ov ← holding [v] (eval o X.env); let iv ← holding [v, ov] (eval i X.env); standAt pos; holding [v, ov, iv] (setItem ov iv v); release [v, ov, iv] []) := by intro _; rfl) : TgD X W (.Subscript o i pos) (gdSub do_ di) :=
  pgImp (pg_sub ho hi set_list ha) fun v σ H Q ⟨d, env, M, q, ex, H0, r, so, S, h, k, kx⟩ =>
    goE so S h (kx.at so) fun x dx H1 H' M1 e1 so1 S1 rx h1 kx1 => goE so1 S1 h1 kx1 fun y dy H2 H'' M2 e2 so2 S2 ry ⟨c, xs, kk, j, ec, ei, em, ej, w⟩ kx2 => by
      subst ec ei
      cases rx
      cases ry
      obtain ⟨n0, vs, hv, rs⟩ := S2.cell c xs em
      refine ⟨c, vs, kk, j, rfl, rfl, hv, by rw [rs.length]; exact ej, ?_⟩
      exact k _ _ H2 _ _ (e1.trans e2) so2 (S2.write em (rs.set j (r.mono (e1.trans e2)))) w
end
structure EndD where
  nx : EnvD → Mem → Prop
  rt : QD
  bk : EnvD → Mem → Prop := fun _ _ => False
  ct : EnvD → Mem → Prop := fun _ _ => False
  ex : EnvD → XD := fun _ _ _ _ _ => False
abbrev DS := EndD → EnvD → Mem → Prop
structure KE (K : PySem.W.Frag) (H0 : Hp) (W : WX) (d : EndD) (D : Ends) : Prop where
  nx : KN K H0 d.nx D.nx
  rt : KQ K H0 d.rt D.rt
  bk : KN K H0 d.bk D.bk
  ct : KN K H0 d.ct D.ct
  ex : KXE K H0 d.ex W
theorem KE.mono {K : PySem.W.Frag} {H0 H1 : Hp} {W : WX} {d : EndD} {D : Ends} (h : KE K H0 W d D) (e : Ext H0 H1) : KE K H1 W d D := ⟨h.nx.mono e, h.rt.mono e, h.bk.mono e, h.ct.mono e, h.ex.mono e⟩
def liftS (K : PySem.W.Frag) (W : WX) (ds : DS) : TS := fun D σ H => ∃ env M d H0, SlotOk K H0 σ env ∧ SD K H0 H M ∧ ds d env M ∧ KE K H0 W d D
def SDt (X : Cx) (W : WX) (st : Stmt) (ds : DS) : Prop := PS X st (liftS X.K W ds)
def BD (X : Cx) (W : WX) (sts : List Stmt) (ds : DS) : Prop := PSs X sts (liftS X.K W ds)
section
variable {X : Cx} {W : WX}
@[reducible] def dNext : DS := fun d env M => d.nx env M
@[reducible] def dSeq (a b : DS) : DS := fun d env M => a { d with nx := fun env' M' => b d env' M' } env M
theorem bd_nil : BD X W [] dNext := pssImp pss_nil fun D σ H ⟨env, M, d, H0, so, S, h, k⟩ => k.nx _ _ H0 H M (Ext.refl H0) so S h
theorem bd_cons {st : Stmt} {r : List Stmt} {a b : DS} (h1 : SDt X W st a) (h2 : BD X W r b) : BD X W (st :: r) (dSeq a b) := pssImp (pss_cons h1 h2) fun D σ H ⟨env, M, d, H0, so, S, h, k⟩ =>
  ⟨env, M, _, H0, so, S, h, ⟨fun σ' env' H1 H' M' e so' S' w => ⟨env', M', d, H1, so', S', w, k.mono e⟩, k.rt, k.bk, k.ct, k.ex⟩⟩
theorem bd_one {st : Stmt} {a : DS} (h1 : SDt X W st a) : BD X W [st] a := pss_one h1
@[reducible] def dBrk : DS := fun d env M => d.bk env M
theorem sd_brk {pos} : SDt X W (.Break pos) dBrk := psImp ps_break fun D σ H ⟨env, M, d, H0, so, S, h, k⟩ => k.bk _ _ H0 H M (Ext.refl H0) so S h
@[reducible] def dExp (de : DE) : DS := fun d env M => de env M (fun _ M' => d.nx env M') (d.ex env)
theorem sd_expr {e : Expr} {de : DE} {pos : Pos} (h : PD X W e de) (hs : swapsWith e none pos.line X.env = pure false := by rfl) : SDt X W (.Expr e pos) (dExp de) := psImp (ps_expr h hs) fun D σ H ⟨env, M, d, H0, so, S, h, k⟩ =>
  goE so S h (k.ex.at so) fun x dx H1 H' M1 e1 so1 S1 rx w kx1 => k.nx _ _ H1 H' M1 e1 so1 S1 w
@[reducible] def dRet (de : DE) : DS := fun d env M => de env M d.rt (d.ex env)
theorem sd_ret {e : Expr} {de : DE} {pos : Pos} (h : PD X W e de) : SDt X W (.Return (some e) pos) (dRet de) := psImp (ps_ret h) fun D σ H ⟨env, M, d, H0, so, S, h, k⟩ =>
  goE so S h (k.ex.at so) fun x dx H1 H' M1 e1 so1 S1 rx w kx1 => k.rt _ _ H1 H' M1 e1 S1 rx w
theorem SD.freeze {K : PySem.W.Frag} {H0 H : Hp} {M : Mem} {c : Addr} {xs : List D} (S : SD K H0 H M) (h : M c = some (.ls xs)) : ∃ vs, H c = some (.lst vs) ∧ H0 c = none ∧ SD K (upd H0 c (.lst vs)) H (mdel M c) ∧ Dn K (upd H0 c (.lst vs)) (.ref c) (.lst xs) := by
  obtain ⟨n0, vs, e1, r⟩ := S.cell c xs h
  refine ⟨vs, e1, n0, ⟨fun a o q => ?_, fun b ys q => ?_⟩, .lst upd_same (r.mono (Ext.add n0))⟩
  · by_cases z : a = c
    · subst z; rw [upd_same] at q; cases q; exact e1
    · rw [upd_ne z] at q; exact S.ex a o q
  · unfold mdel at q
    by_cases z : b = c
    · rw [if_pos z] at q; cases q
    · rw [if_neg z] at q
      obtain ⟨n1, ok⟩ := S.any b ys q
      exact ⟨by rw [upd_ne z]; exact n1, ok.same (Ext.add n0) rfl⟩
@[reducible] def dIfS (t : DT) (a b : DS) : DS := fun d env M => t env M (fun c M1 => if c = true then a d env M1 else b d env M1) (d.ex env)
theorem sd_if {c : Expr} {a b : List Stmt} {dt : DT} {da db : DS} {pos : Pos} (hc : TD X W c dt) (ha : BD X W a da) (hb : BD X W b db) : SDt X W (.If c a b pos) (dIfS dt da db) := psImp (ps_if hc ha hb) fun D σ H ⟨env, M, d, H0, so, S, h, k⟩ =>
  goT so S h (k.ex.at so) fun c H1 H' M1 e1 so1 S1 w kx1 => by
    cases c with
    | true => exact iteT ⟨env, M1, d, H1, so1, S1, w, k.mono e1⟩
    | false => exact iteF ⟨env, M1, d, H1, so1, S1, w, k.mono e1⟩
@[reducible] def dAsg (de : DE) (g : GD) : DS := fun d env M => de env M (fun x M1 => g x env M1 d.nx d.ex) (d.ex env)
theorem sd_asg {tg e : Expr} {de : DE} {g : GD} {pos : Pos} (he : PD X W e de) (hg : TgD X W tg g) (hs : swapsWithSole [tg] e pos.line X.env = pure false := by rfl) (hw : swappedStores [tg] e X.env = pure none := by rfl)
    (h1 : (assignEach [tg] X.env).map (·.2) = [assign tg X.env] := by rfl) : SDt X W (.Assign [tg] e pos) (dAsg de g) := psImp (ps_asg he hg hs hw h1) fun D σ H ⟨env, M, d, H0, so, S, h, k⟩ =>
  goE so S h (k.ex.at so) fun x dx H1 H' M1 e1 so1 S1 rx w kx1 => ⟨dx, env, M1, d.nx, d.ex, H1, rx, so1, S1, w, k.nx.mono e1, k.ex.mono e1⟩
@[reducible] def dSet (i : Nat) (de : DE) : DS := fun d env M => de env M (fun x M1 => d.nx (env.set i (some x)) M1) (d.ex env)
theorem sd_set (i : Nat) {x : Str} {e : Expr} {de : DE} {pos pos' : Pos} (hN : X.N.Nodup) (he : PD X W e de) (hi : X.N[i]? = some x := by rfl) (hx : Loc X.env.scope x := by first | exact Or.inl rfl | exact Or.inr rfl) (hs : swapsWith e (some (.Name x pos')) pos.line X.env = pure false := by rfl)
    (hf : X.fn x = true ∨ X.env.scope.names.lookup x = some .local := by first | exact .inl rfl | exact .inr rfl) : SDt X W (.Assign [.Name x pos'] e pos) (dSet i de) := psImp (ps_set hN hi hx he hs hf) fun D σ H ⟨env, M, d, H0, so, S, h, k⟩ =>
  goE so S h (k.ex.at so) fun x dx H1 H' M1 e1 so1 S1 rx w kx1 => k.nx _ _ H1 H' M1 e1 (so1.set i rx) S1 w
def forW (ok : Mem → Prop) (g : GD) (body : DS) (d : EndD) : List D → EnvD → Mem → Prop
  | [], env, M => ok M ∧ d.nx env M
  | x :: r, env, M => ok M ∧ g x env M (fun env' M' => body { d with nx := forW ok g body d r, ct := forW ok g body d r, bk := d.nx } env' M') d.ex
@[reducible] def dFor (di : DI) (g : GD) (body : DS) : DS := fun d env M => di env M (fun items ok M1 => forW ok g body d items env M1) (d.ex env)
theorem sd_for {tg it : Expr} {body : List Stmt} {di : DI} {g : GD} {db : DS} {pos : Pos} (hp : PassesOwn (model X.prog X.w) X.A X.env X.xe) (hc : X.calm = true) (hi : ID X W tg it di) (hg : TgD X W tg g) (hb : BD X W body db)
    (hs : ∀ x, foldedSetIterable it X.env x = pure x := by intro _; rfl) : SDt X W (.For tg it body [] pos) (dFor di g db) := psImp (ps_for hp hc hi hg hb hs) fun D σ H ⟨env, M, d, H0, so, S, h, k⟩ =>
  goI so S h (k.ex.at so) fun J items ok H1 H' M1 e1 so1 S1 io w kx1 => by
    refine ⟨fun i m σ2 H2 => m = items.length - i ∧ i ≤ items.length ∧ ∃ env2 M2 H3, Ext H1 H3 ∧ SlotOk X.K H3 σ2 env2 ∧ SD X.K H3 H2 M2 ∧ forW ok g db d (items.drop i) env2 M2, ⟨_, rfl, Nat.zero_le _, env, M1, H1, Ext.refl _, so1, S1, w⟩, ?_⟩
    rintro i m σ2 H2 ⟨rfl, hi2, env2, M2, H3, e3, so3, S3, w3⟩
    by_cases hlt : i < items.length
    · have hx : items[i]? = some items[i] := List.getElem?_eq_getElem hlt
      rw [List.drop_eq_getElem_cons hlt] at w3
      obtain ⟨o3, w3⟩ := w3
      obtain ⟨g1, g2⟩ := io.go H3 H2 M2 i _ e3 S3 o3 hx
      refine .inr ⟨g1, fun σ4 H4 => ∃ env4 M4 H5, Ext H1 H5 ∧ SlotOk X.K H5 σ4 env4 ∧ SD X.K H5 H4 M4 ∧ forW ok g db d (items.drop (i + 1)) env4 M4, fun σ4 H4 z => ⟨items.length - (i + 1), by omega, rfl, hlt, z⟩, fun x H4 y => ?_⟩
      obtain ⟨H5, e5, S5, r5⟩ := g2 x H4 y
      refine ⟨_, env2, M2, _, d.ex, H5, r5, so3.mono e5, S5, w3, fun σ6 env6 H6 H6' M6 e6 so6 S6 w6 => ?_, k.ex.mono ((e1.trans e3).trans e5)⟩
      have e16 : Ext H1 H6 := (e3.trans e5).trans e6
      refine ⟨env6, M6, _, H6, so6, S6, w6, ⟨fun σ7 env7 H7 H7' M7 e7 so7 S7 w7 => ⟨env7, M7, H7, e16.trans e7, so7, S7, w7⟩, k.rt.mono (e1.trans e16), k.nx.mono (e1.trans e16), fun σ7 env7 H7 H7' M7 e7 so7 S7 w7 => ⟨env7, M7, H7, e16.trans e7, so7, S7, w7⟩, k.ex.mono (e1.trans e16)⟩⟩
    · have hge : items.length ≤ i := Nat.le_of_not_lt hlt
      rw [List.drop_eq_nil_of_le hge] at w3
      exact .inl ⟨io.stop H3 H2 M2 i e3 S3 w3.1 hge, k.nx _ _ H3 H2 M2 (e1.trans e3) so3 S3 w3.2⟩
end
/-- the slots of the block's own names forgotten -/
def wipeD (env : EnvD) : List Nat → EnvD
  | [] => env
  | i :: r => (wipeD env r).set i none
def noX : XD := fun _ _ _ _ => False
/-- the turns of a comprehension; c the cell that grows -/
def lcW (ok : Mem → Prop) (g : GD) (t : DT) (de : DE) (env : EnvD) (q : QD) (c : Addr) : List D → Mem → Prop
  | [], M => ok M ∧ ∃ xs, M c = some (.ls xs) ∧ q (.lst xs) (mdel M c)
  | x :: r, M => ok M ∧ g x env M (fun env' M' => t env' M' (fun b M2 => if b = true then de env' M2 (fun y M3 => ∃ xs, M3 c = some (.ls xs) ∧ xs.length < sizeLine ∧ lcW ok g t de env q c r (mset M3 c (.ls (xs ++ [y])))) noX else lcW ok g t de env q c r M2) noX) (fun _ => noX)
@[reducible] def dLc (di : DI) (g : GD) (t : DT) (de : DE) (vs : List Nat) : DE := fun env M q E => di env M (fun items ok M1 => ∀ c, M1 c = none → lcW ok g t de (wipeD env vs) q c items (mset M1 c (.ls []))) E
end DL
set_option maxRecDepth 100000
set_option maxHeartbeats 4000000
namespace DL
open PySem PySem.Spec PyProof.Rows L2
theorem wipe_set {σ : L2.St} {i : Nat} {x : Option V} : ∀ {vs : List Nat}, i ∈ vs → wipe (σ.set i x) vs = wipe σ vs
  | [], h => by cases h
  | v :: vs, h => by
    show (wipe (σ.set i x) vs).set v none = (wipe σ vs).set v none
    by_cases hv : i ∈ vs
    · rw [wipe_set hv]
    · have e : i = v := (List.mem_cons.mp h).resolve_right hv
      subst e
      have z : ∀ ws : List Nat, i ∉ ws → wipe (σ.set i x) ws = (wipe σ ws).set i x := fun ws => by
        induction ws with
        | nil => intro _; rfl
        | cons w ws ih =>
          intro hw
          have h1 : i ≠ w := fun q => hw (by rw [q]; exact List.mem_cons_self)
          have h2 : i ∉ ws := fun q => hw (List.mem_cons_of_mem _ q)
          show (wipe (σ.set i x) ws).set w none = ((wipe σ ws).set w none).set i x
          rw [ih h2, List.set_comm _ _ h1]
      rw [z vs hv, List.set_set]
theorem wipe_idem {σ : L2.St} {i : Nat} : ∀ {vs : List Nat}, i ∈ vs → (wipe σ vs).set i none = wipe σ vs
  | [], h => by cases h
  | v :: vs, h => by
    show ((wipe σ vs).set v none).set i none = (wipe σ vs).set v none
    by_cases e : i = v
    · subst e; rw [List.set_set]
    · rw [List.set_comm _ _ (fun q => e q.symm), wipe_idem ((List.mem_cons.mp h).resolve_left e)]
theorem slot_wipe {K : PySem.W.Frag} {H : Hp} {σ : L2.St} {env : EnvD} (so : SlotOk K H σ env) : ∀ vs : List Nat, SlotOk K H (wipe σ vs) (wipeD env vs)
  | [] => so
  | v :: vs => by
    have ih := slot_wipe so vs
    refine ⟨?_, fun i d h => ?_⟩
    · show ((wipe σ vs).set v none).length = ((wipeD env vs).set v none).length
      rw [List.length_set, List.length_set]; exact ih.len
    · have h' : ((wipeD env vs).set v none)[i]? = some (some d) := h
      by_cases e : v = i
      · subst e
        by_cases l : v < (wipeD env vs).length
        · rw [List.getElem?_set_self l] at h'; cases h'
        · rw [List.getElem?_eq_none (by simpa using l)] at h'; cases h'
      · rw [List.getElem?_set_ne e] at h'
        obtain ⟨u, h1, h2⟩ := ih.get i d h'
        refine ⟨u, ?_, h2⟩
        show ((wipe σ vs).set v none)[i]? = _
        rw [List.getElem?_set_ne e]; exact h1
/-- nothing is let out -/
abbrev WF : WX := fun _ _ _ _ => False
theorem kx0 {K : PySem.W.Frag} {H : Hp} {W : XK} : KX K H noX W := fun _ _ _ _ _ _ _ _ _ _ z => z.elim
theorem kxe0 {K : PySem.W.Frag} {H : Hp} {W : WX} : KXE K H (fun _ => noX) W := fun _ _ _ _ _ => kx0
/-- a target whose names are the block's own -/
def liftGw (K : PySem.W.Frag) (gd : GD) (vs : List Nat) : TG := fun v σ H Q => ∃ d env M q H0, Dn K H0 v d ∧ SlotOk K H0 σ env ∧ SD K H0 H M ∧ gd d env M q (fun _ => noX) ∧
  (∀ σ' env' H0' H' M', Ext H0 H0' → SlotOk K H0' σ' env' → SD K H0' H' M' → q env' M' → wipe σ' vs = wipe σ vs → Q σ' H')
def liftGws (K : PySem.W.Frag) (gd : GDs) (vs : List Nat) : TGs := fun xs σ H Q => ∃ ds env M q H0, DnL K H0 xs ds ∧ SlotOk K H0 σ env ∧ SD K H0 H M ∧ gd ds env M q (fun _ => noX) ∧
  (∀ σ' env' H0' H' M', Ext H0 H0' → SlotOk K H0' σ' env' → SD K H0' H' M' → q env' M' → wipe σ' vs = wipe σ vs → Q σ' H')
def TgW (X : Cx) (e : Expr) (gd : GD) (vs : List Nat) : Prop := PG X e (liftGw X.K gd vs)
def TgsW (X : Cx) (e : List Expr) (gd : GDs) (vs : List Nat) : Prop := PGs X e (liftGws X.K gd vs)
section
variable {X : Cx} {vs : List Nat}
theorem gw_name {i : Nat} {x : Str} {pos : Pos} (hN : X.N.Nodup) (hv : i ∈ vs := by decide) (hi : X.N[i]? = some x := by rfl) (hx : Loc X.env.scope x := by first | exact Or.inl rfl | exact Or.inr rfl) (hf : X.fn x = true ∨ X.env.scope.names.lookup x = some .local := by first | exact .inl rfl | exact .inr rfl) :
    TgW X (.Name x pos) (gdName i) vs := pgImp (pg_name hN hi hx hf) fun v σ H Q ⟨d, env, M, q, H0, r, so, S, h, k⟩ => k _ _ H0 H M (Ext.refl H0) (so.set i r) S h (wipe_set hv)
theorem gws_nil : TgsW X [] gdNil vs := pgsImp pgs_nil fun v σ H Q ⟨ds, env, M, q, H0, r, so, S, ⟨e, h⟩, k⟩ => by
  subst e
  cases r
  exact ⟨rfl, k _ _ H0 H M (Ext.refl H0) so S h rfl⟩
theorem gws_cons {e : Expr} {es : List Expr} {g : GD} {u : GDs} (h1 : TgW X e g vs) (h2 : TgsW X es u vs) (hs : (assignEach (e :: es) X.env).map (·.2) = assign e X.env :: (assignEach es X.env).map (·.2) := by rfl) : TgsW X (e :: es) (gdCons g u) vs :=
  pgsImp (pgs_cons h1 h2 hs) fun v σ H Q ⟨ds, env, M, q, H0, r, so, S, ⟨d, dr, e, h⟩, k⟩ => by
    subst e
    cases r with
    | cons r rr => exact ⟨_, _, rfl, d, env, M, _, H0, r, so, S, h, fun σ' env' H1 H' M' e1 so1 S1 w wz => ⟨dr, env', M', q, H1, rr.mono e1, so1, S1, w, fun σ2 env2 H2 H2' M2 e2 so2 S2 w2 wz2 => k σ2 env2 H2 H2' M2 (e1.trans e2) so2 S2 w2 (wz2.trans wz)⟩⟩
theorem gw_tup {es : List Expr} {k : Nat} {u : GDs} {n : Nat} {pos : Pos} (hc : X.calm = true) (h : TgsW X es u vs) (hn : (assignEach es X.env).length = n := by rfl) (hst : (assignEach es X.env).findIdx? (·.1) = none := by rfl) : TgW X (.Tuple es k pos) (gdTup n u) vs :=
  pgImp (pg_tup hc h hn hst) fun v σ H Q ⟨d, env, M, q, H0, r, so, S, ⟨xs, e, hl, h⟩, k⟩ => by
    subst e
    cases r with
    | tup hh rr => exact ⟨_, _, rfl, S.ex.sqT hh, by rw [rr.length]; exact hl, xs, env, M, q, H0, rr, so, S, h, k⟩
end
section
variable {X : Cx} {W : WX}
def TsD (X : Cx) (es : List Expr) (dt : DT) : Prop := PTs X es (liftT X.K WF dt)
@[reducible] def dYes : DT := fun _ M q _ => q true M
theorem ptsImp {es : List Expr} {t t' : TT} (h : PTs X es t) (i : ∀ σ H Q, t' σ H Q → t σ H Q) : PTs X es t' := ⟨fun pins s σ H Q I q => h.run pins s σ H Q I (i σ H Q q)⟩
theorem tsd_nil : TsD X [] dYes := ptsImp pts_nil fun σ H Q ⟨env, M, q, E, H0, so, S, h, k, kx⟩ => k true H0 H M (Ext.refl H0) S h
theorem tsd_one {c : Expr} {t : DT} (h : TD X WF c t) : TsD X [c] t := pts_one h
theorem lift_lc {K : PySem.W.Frag} {di : DI} {g : GD} {t : DT} {de : DE} {vs : List Nat} : ∀ σ H Q, liftE K W (dLc di g t de vs) σ H Q → tLc (liftI K W di) (liftGw K g vs) (liftT K WF t) (liftE K WF de) vs σ H Q := fun σ H Q ⟨env, M, q, E, H0, so, S, h, k, kx⟩ =>
  goI so S h kx fun J items ok H1 H' M1 e1 so1 S1 io w kx1 => by
    intro Dl hD
    have S1' := S1.newCell (vs := []) (xs := []) hD .nil
    have sw := slot_wipe so1 vs
    refine ⟨fun i m H2 => m = items.length - i ∧ i ≤ items.length ∧ ∃ M2 H3, Ext H1 H3 ∧ SD K H3 H2 M2 ∧ lcW ok g t de (wipeD env vs) q Dl (items.drop i) M2,
      ⟨_, rfl, Nat.zero_le _, _, H1, Ext.refl _, S1', w Dl (S1.fresh hD).2⟩, ?_⟩
    rintro i m H2 ⟨rfl, hi2, M2, H3, e3, S3, w3⟩
    by_cases hlt : i < items.length
    · have hx : items[i]? = some items[i] := List.getElem?_eq_getElem hlt
      rw [List.drop_eq_getElem_cons hlt] at w3
      obtain ⟨o3, w3⟩ := w3
      obtain ⟨g1, g2⟩ := io.go H3 H2 M2 i _ e3 S3 o3 hx
      refine .inr ⟨g1, fun H4 => ∃ M4 H5, Ext H1 H5 ∧ SD K H5 H4 M4 ∧ lcW ok g t de (wipeD env vs) q Dl (items.drop (i + 1)) M4, fun H4 z => ⟨items.length - (i + 1), by omega, rfl, hlt, z⟩, fun x H4 y => ?_⟩
      obtain ⟨H5, e5, S5, r5⟩ := g2 x H4 y
      refine ⟨_, _, M2, _, H5, r5, sw.mono (e3.trans e5), S5, w3, fun σ6 env6 H6 H6' M6 e6 so6 S6 w6 wz => ⟨?_, goT so6 S6 w6 kx0 fun b H7 H7' M7 e7 so7 S7 w7 _ => ?_⟩⟩
      · have z : ∀ (ws : List Nat), (∀ v ∈ ws, v ∈ vs) → wipe (wipe σ vs) ws = wipe σ vs := fun ws => by
          induction ws with
          | nil => intro _; rfl
          | cons v ws ih =>
            intro hv
            show (wipe (wipe σ vs) ws).set v none = wipe σ vs
            rw [ih fun u hu => hv u (List.mem_cons_of_mem _ hu)]
            exact wipe_idem (hv v List.mem_cons_self)
        rw [wz]
        exact z vs fun _ h => h
      · have e17 : Ext H1 H7 := ((e3.trans e5).trans e6).trans e7
        cases b with
        | true =>
          refine iteT ?_
          refine goE so7 S7 (show de env6 M7 _ noX from w7) kx0 fun v d H8 H8' M8 e8 so8 S8 r8 ⟨xs, ex, hl, w8⟩ _ => ?_
          obtain ⟨n0, us, e9, r9⟩ := S8.cell Dl xs ex
          exact ⟨us, e9, by rw [r9.length]; exact hl, _, H8, e17.trans e8, S8.write ex (r9.app (.one r8)), w8⟩
        | false => exact iteF ⟨M7, H7, e17, S7, w7⟩
    · have hge : items.length ≤ i := Nat.le_of_not_lt hlt
      rw [List.drop_eq_nil_of_le hge] at w3
      obtain ⟨o3, xs, ex, w3⟩ := w3
      refine .inl ⟨io.stop H3 H2 M2 i e3 S3 o3 hge, ?_⟩
      obtain ⟨us, _, n0, S4, r4⟩ := S3.freeze ex
      exact k _ _ _ H2 _ ((e1.trans e3).trans (Ext.add n0)) S4 r4 w3
theorem pd_lc {elt tg iter : Expr} {ifs : List Expr} {scope : Scope} {own : List (Str × Nat)} {pos : Pos} {di : DI} {g : GD} {t : DT} {de : DE} (hc : X.calm = true) (hN : X.N.Nodup) (hi : ID X W tg iter di) (ok : BlkOk X.N X.env.scope scope own)
    (hg : ∀ (s : Shared) (H : Hp) (C : Addr) (cl : List (Str × Addr)) (fp : List Addr), TgW (X.blk s H scope (compEnvC scope cl C X.env) fp) tg g (own.map (·.2))) (ht : ∀ (s : Shared) (H : Hp) (C : Addr) (cl : List (Str × Addr)) (fp : List Addr), TsD (X.blk s H scope (compEnvC scope cl C X.env) fp) ifs t)
    (he : ∀ (s : Shared) (H : Hp) (C : Addr) (cl : List (Str × Addr)) (fp : List Addr), PD (X.blk s H scope (compEnvC scope cl C X.env) fp) WF elt de) (hs : ∀ x, foldedSetIterable iter X.env x = pure x := by intro _; rfl) :
    PD X W (.ListComp elt [⟨tg, iter, ifs, 0⟩] scope pos) (dLc di g t de (own.map (·.2))) := peImp (pe_lc (g := liftGw X.K g (own.map Prod.snd)) (tt := liftT X.K WF t) (te := liftE X.K WF de) hc hN hi ok hg ht he hs) lift_lc
/-- name = [..] on one line, the name a plain local -/
theorem sd_setLc (i : Nat) {y : Str} {py : Pos} {elt tg iter : Expr} {ifs : List Expr} {scope : Scope} {own : List (Str × Nat)} {pos spos : Pos} {di : DI} {g : GD} {t : DT} {de : DE} (hc : X.calm = true) (hN : X.N.Nodup)
    (hsw : swapsWith (.ListComp elt [⟨tg, iter, ifs, 0⟩] scope pos) (some (.Name y py)) spos.line X.env = pure true) (hi : ID X W tg iter di) (ok : BlkOk X.N X.env.scope scope own)
    (hg : ∀ (s : Shared) (H : Hp) (C : Addr) (cl : List (Str × Addr)) (fp : List Addr), TgW (X.blk s H scope (compEnvC scope cl C X.env) fp) tg g (own.map (·.2))) (ht : ∀ (s : Shared) (H : Hp) (C : Addr) (cl : List (Str × Addr)) (fp : List Addr), TsD (X.blk s H scope (compEnvC scope cl C X.env) fp) ifs t)
    (he : ∀ (s : Shared) (H : Hp) (C : Addr) (cl : List (Str × Addr)) (fp : List Addr), PD (X.blk s H scope (compEnvC scope cl C X.env) fp) WF elt de) (hy : X.N[i]? = some y := by rfl) (hyl : X.env.scope.names.lookup y = some .local := by rfl)
    (hs : ∀ x, foldedSetIterable iter X.env x = pure x := by intro _; rfl) : SDt X W (.Assign [.Name y py] (.ListComp elt [⟨tg, iter, ifs, 0⟩] scope pos) spos) (dSet i (dLc di g t de (own.map (·.2)))) :=
  psImp (ps_setLc (g := liftGw X.K g (own.map Prod.snd)) (tt := liftT X.K WF t) (te := liftE X.K WF de) hc hN hy hyl hsw hi ok hg ht he hs) fun D σ H ⟨env, M, d, H0, so, S, h, k⟩ =>
    lift_lc σ H _ (goE so S h (k.ex.at so) fun x dx H1 H' M1 e1 so1 S1 rx w kx1 => k.nx _ _ H1 H' M1 e1 (so1.set i rx) S1 w)
end
abbrev SpD := List D → Mem → QD → XD → Prop
def spOf (K : PySem.W.Frag) (n : Nat) (sd : SpD) : Sp := fun vs H Q E => ∃ ds M q ex H0, ds.length = n ∧ DnL K H0 vs ds ∧ SD K H0 H M ∧ sd ds M q ex ∧ KQ K H0 q Q ∧ KX K H0 ex E
@[reducible] def startD (N : List Str) (ds : List D) : EnvD := ds.map some ++ List.replicate (N.length - ds.length) none
theorem slot_start {K : PySem.W.Frag} {H0 : Hp} {N : List Str} {vs : List V} {ds : List D} (r : DnL K H0 vs ds) : SlotOk K H0 (L2.start N vs) (startD N ds) := by
  refine ⟨?_, fun i d h => ?_⟩
  · unfold L2.start startD
    rw [List.length_append, List.length_append, List.length_map, List.length_map, List.length_replicate, List.length_replicate, r.length]
  · unfold startD at h
    by_cases hi : i < ds.length
    · rw [List.getElem?_append_left (by simpa using hi), List.getElem?_map] at h
      obtain ⟨e, h1, h2⟩ := omap h
      cases h2
      obtain ⟨v, hv, rv⟩ := r.get h1
      refine ⟨v, ?_, rv⟩
      unfold L2.start
      rw [List.getElem?_append_left (by rw [List.length_map, r.length]; exact hi), List.getElem?_map, hv]
      rfl
    · rw [List.getElem?_append_right (by simpa using hi), List.getElem?_replicate] at h
      split at h <;> cases h
/-- a def of the text, guards known to be none while it runs -/
structure FnG (P : Program) (w : World) (K : PySem.W.Frag) (mg : Str → Option Value) (base : Heap) (k : Nat) (f : Addr) (fd : FuncData) (ps : List Str) (sp : Sp) : Prop where
  len : ∀ vs H Q E, sp vs H Q E → vs.length = ps.length
  run : ∀ (A : Around) (fr : List Env) (s : Shared) (H : Hp) (args : Args) (us : List Value) (vs : List V) (Q : VK) (E : XK), Room k A → A.guards = some [] → Env0 P w K mg base A fr s H → BindsTo s fd args (ps.zip us) → Vals vs us → sp vs H Q E →
    codeAny (model P w) A (.call (.ref f) args) (CR (L2.CX P w) fr P w H s Q E) s
section
variable {P : Program} {w : World} {K : PySem.W.Frag} {mg : Str → Option Value} {base : Heap} {x qual : Str} {params : Arguments} {body : List Stmt} {scope : Scope} {dvs : List V} {kws : List (Str × V)} {f : Addr} {fd : FuncData}
theorem FnG.of {k : Nat} {ps : List Str} {sp : Sp} (F : FnOk P w K mg base (L2.CX P w) k f fd ps sp) : FnG P w K mg base k f fd ps sp := ⟨F.len, fun A fr s H args us vs Q E hr _ => F.run A fr s H args us vs Q E hr⟩
theorem FnG.mono {j k : Nat} {ps : List Str} {sp : Sp} (F : FnG P w K mg base j f fd ps sp) (h : j ≤ k) : FnG P w K mg base k f fd ps sp := ⟨F.len, fun A fr s H args us vs Q E hr => F.run A fr s H args us vs Q E (hr.mono h)⟩
/-- what a body is to show -/
def Keeps (N : List Str) (n : Nat) (sd : SpD) (db : DS) : Prop := ∀ ds M q ex, ds.length = n → sd ds M q ex → db { nx := fun _ M' => q .non M', rt := q, ex := fun _ => ex } (startD N ds) M
theorem keeps_run {N : List Str} {n : Nat} {sd : SpD} {db : DS} (hk : Keeps N n sd db) {vs : List V} {H : Hp} {Q : VK} {E : XK} (h : spOf K n sd vs H Q E) : liftS K (fun c d _ H => E c d H) db { nx := fun _ H' => Q .non H', rt := Q } (L2.start N vs) H := by
  obtain ⟨ds, M, q, ex, H0, hl, r, S, h, kq, kx⟩ := h
  exact ⟨startD N ds, M, _, H0, slot_start r, S, hk ds M q ex hl h, ⟨fun _ _ H1 H' M' e so' S' w => kq _ _ H1 H' M' e S' .non w, kq, fun _ _ _ _ _ _ _ _ z => z.elim, fun _ _ _ _ _ _ _ _ z => z.elim, fun H1 _ _ e _ => kx.mono e⟩⟩
theorem sp_len {n : Nat} {sd : SpD} {ps : List Str} (hn : ps.length = n) : ∀ vs H Q E, spOf K n sd vs H Q E → vs.length = ps.length := fun vs H Q E ⟨ds, M, q, ex, H0, hl, r, _⟩ => by rw [r.length, hl, hn]
/-- THE RULE for a def whose body asks no guards -/
theorem okD {N ps : List Str} {k n : Nat} {sd : SpD} {db : DS} (F : FunD K x qual params body scope dvs kws f fd) (Sc : FnScope N ps scope) (hn : ps.length = n)
    (hb : ∀ (cdv : Value) (A : Around) (fr : List Env) (s : Shared) (H : Hp) (E : XK), Room k (A.deeper (envOfC qual scope s.heap.objs.size f cdv)) → BD (cxOf (L2.CX P w) P w K mg base N qual scope f cdv A fr s H E) (fun c d _ H => E c d H) body db)
    (hk : Keeps N n sd db) : FnOk P w K mg base (L2.CX P w) (k + 1) f fd ps (spOf K n sd) :=
  F.ok Sc (sp_len hn) fun cdv A fr s H vs Q E hr h => ⟨_, hb cdv A fr s H E hr, keeps_run hk h⟩
/-- .. where guards are known to be none -/
theorem okG {N ps : List Str} {k n : Nat} {sd : SpD} {db : DS} (F : FunD K x qual params body scope dvs kws f fd) (Sc : FnScope N ps scope) (hn : ps.length = n)
    (hb : ∀ (cdv : Value) (A : Around) (fr : List Env) (s : Shared) (H : Hp) (E : XK), Room k (A.deeper (envOfC qual scope s.heap.objs.size f cdv)) → A.guards = some [] → BD (cxOf (L2.CX P w) P w K mg base N qual scope f cdv A fr s H E) (fun c d _ H => E c d H) body db)
    (hk : Keeps N n sd db) : FnG P w K mg base (k + 1) f fd ps (spOf K n sd) := by
  obtain ⟨oc, od, dV, kV, doc, pm, an, cdv, ct, osl, rfl, lk, hcd, _, _⟩ := F.ex
  refine ⟨sp_len hn, fun A fr s H args us vs Q E hr hg e0 hbd rv hsp => ?_⟩
  have hl := sp_len hn _ _ _ _ hsp
  have kIn : K.In s.heap := e0.mod.kin.keeps fun b o e => (e0.bs b o e).1
  have noL : s.heap.NoLimit := e0.mod.nolimit.keeps fun b o e => (e0.bs b o e).1
  refine codeAny_call_function hr.depth (kIn _ _ lk) rfl Sc.co Sc.gen rfl (PySem.W.codeRec_of kIn hcd) (hbd _ _ _ _ (wpAny_newFunctionEnv_cells Sc.kind (fun ⟨y, v⟩ hy => ?_) fun env he s1 ic => ?_))
  · rcases Sc.par y (List.of_mem_zip hy).1 with z | z
    · exact .inl z
    · exact .inr ⟨z, PySem.W.cellsFrom_some _ _ _ (.inl z)⟩
  · subst he
    have J := inv_start (CX := L2.CX P w) (E := E) (cd := cdv) (f := f) (qual := qual) Sc hr.hd e0 hl rv ic
    refine ⟨noL.keeps ic.toInCall.keep, codeAny_func (wpAny_mono ((hb cdv A fr s H E (hr.deeper _) hg).run [] s1 (L2.start N vs) H _ J (keeps_run hk hsp)) (fun fl s2 out => ?_) fun e s2 out => out)⟩
    cases fl with
    | ret u => obtain ⟨v, _, H', J', ru, q⟩ := out; exact ⟨v, H', J'.os, J'.bare, J'.base, J'.hok, ru, q⟩
    | next => obtain ⟨_, H', J', q⟩ := out; exact ⟨.non, H', J'.os, J'.bare, J'.base, J'.hok, rfl, q⟩
    | brk => obtain ⟨_, _, _, q⟩ := out; exact q.elim
    | cont => obtain ⟨_, _, _, q⟩ := out; exact q.elim
end
section
variable {X : Cx} {W : WX} {k n : Nat} {f : Addr} {fd : FuncData} {ps : List Str} {sd : SpD} {x : Str} {p pos : Pos} {e : Expr} {es : List Expr} {da : DA}
@[reducible] def dCall (n : Nat) (sd : SpD) (da : DA) : DE := fun env M q E => da env M (fun ds M1 => ds.length = n ∧ sd ds M1 q E) E
theorem lift_call : ∀ σ H Q, liftE X.K W (dCall n sd da) σ H Q → tCallSD (spOf X.K n sd) [] (WE W) (liftA X.K W da) σ H Q := fun σ H Q ⟨env, M, q, E, H0, so, S, h, kq, kx⟩ =>
  goA so S h kx fun vs ds H1 H' M1 e1 so1 S1 rs ⟨hl, w⟩ kx1 => by
    rw [List.append_nil]
    exact ⟨ds, M1, q, E, H1, hl, rs, S1, w, kq.mono e1, kx1⟩
theorem pd_call (F : FnOk X.prog X.w X.K X.mg X.base (L2.CX X.prog X.w) k f fd ps (spOf X.K n sd)) (hr : Room k X.A) (hg : Gl X x) (hm : X.mg x = some (.ref f)) (hk : PySem.W.keepIn X.K (.ref f) = true) (hb : Binds X.K fd ps []) (tk : Takes X W)
    (ha : AD X W (e :: es) da) (hdb : (x == ("__debug__" : Str)) = false := by decide) (he : starEach (e :: es) X.env = (false, eval e X.env) :: starEach es X.env := by rfl) (hpl : (backTo pos (starEach es X.env)).any (·.1) = false := by rfl) :
    PD X W (.Call (.Name x p) (e :: es) [] pos) (dCall n sd da) := peImp (pe_callSD F hr hg hm hk hb .nil (fun σ => passAt tk σ) ha hdb he hpl) lift_call
theorem run_fnG {sp : Sp} {pins : List (Addr × Obj)} {σ : L2.St} {H : Hp} {s : Shared} {Q : VK} {us : List Value} {vs : List V} (F : FnG X.prog X.w X.K X.mg X.base k f fd ps sp) (hr : Room k X.A) (hgd : X.A.guards = some []) (hb : Binds X.K fd ps []) (tk : Takes X W)
    (I : Inv X pins σ H s) (r : Vals vs us) (h : sp vs H Q (WE W σ)) : wpAny (model X.prog X.w) X.A (call (.ref f) us) (EP X pins σ Q) X.xe s := by
  have hl : us.length = ps.length := by rw [← r.length]; exact F.len _ _ _ _ h
  have b2 := hb s us I.kIn (by rw [List.append_nil]; exact hl)
  rw [List.append_nil] at b2
  refine wpAny_call (codeAny_mono (F.run X.A X.stack s H ⟨us, []⟩ us vs Q (WE W σ) hr hgd I.env0 b2 r h) fun res s' out => ?_)
  cases res with
  | error e => exact passAt tk σ pins H s e s' I out
  | ok fl =>
    cases fl with
    | ret u => exact I.after out
    | next => exact out.elim
    | brk => exact out.elim
    | cont => exact out.elim
theorem pd_callG (F : FnG X.prog X.w X.K X.mg X.base k f fd ps (spOf X.K n sd)) (hr : Room k X.A) (hgd : X.A.guards = some []) (hg : Gl X x) (hm : X.mg x = some (.ref f)) (hk : PySem.W.keepIn X.K (.ref f) = true) (hb : Binds X.K fd ps []) (tk : Takes X W)
    (ha : AD X W (e :: es) da) (hdb : (x == ("__debug__" : Str)) = false := by decide) (he : starEach (e :: es) X.env = (false, eval e X.env) :: starEach es X.env := by rfl) (hpl : (backTo pos (starEach es X.env)).any (·.1) = false := by rfl) :
    PD X W (.Call (.Name x p) (e :: es) [] pos) (dCall n sd da) := by
  constructor
  intro pins s σ H Q I ⟨env, M, q, E, H0, so, S, h, kq, kx⟩
  refine wpAny_Call_Name_kw (ld_glob I hg hm ?_ hdb)
  refine PySem.W.callWith_K (h₀ := X.base) I.ok.mod.kin hk (wpAny_mono (PA.run ha pos pins s σ H _ I (goA (Q := fun vs H' => spOf X.K n sd vs H' Q (WE W σ)) so S h kx fun vs ds H1 H' M1 e1 so1 S1 rs ⟨hl, w⟩ kx1 => ⟨ds, M1, q, E, H1, hl, rs, S1, w, kq.mono e1, kx1⟩)) (fun us s1 out => ?_) fun _ _ z => z) he hpl
  obtain ⟨vs, H1, I1, r, q1⟩ := out
  exact ⟨I1.kIn, run_fnG F hr hgd hb tk I1 r q1⟩
end
end DL
set_option maxRecDepth 100000
set_option maxHeartbeats 4000000
namespace DL
open PySem PySem.Spec PyProof.Rows L2
section
variable {X : Cx} {W : WX}
/-- cell.append(e) -/
@[reducible] def dApp (do_ : DE) (da : DA) : DE := fun env M q E => do_ env M (fun o M1 => ∃ c zs, o = .cel c ∧ M1 c = some (.ls zs) ∧ da env M1 (fun ds M2 => ∃ ys y, ds = [y] ∧ M2 c = some (.ls ys) ∧ ys.length < sizeLine ∧ q .non (mset M2 c (.ls (ys ++ [y])))) E) E
theorem pd_app {o e : Expr} {do_ : DE} {da : DA} {apos cpos : Pos} (ho : PD X W o do_) (ha : AD X W [e] da) (hbase : attributeBase o "append" X.env (eval o X.env) = eval o X.env := by rfl)
    (hfew : ((backTo cpos (starEach (e :: []) X.env)).all (fun x => !x.1) && (backToKw cpos (keywordEach [] X.env)).all (fun x => x.1.isSome) && decide ((e :: []).length + ([] : List Keyword).length + (if ([] : List Keyword).isEmpty then 0 else 1) < 30)) = true := by rfl)
    (hline : (apos.endLine == cpos.line) = true := by rfl) (hs : starEach [e] X.env = (false, eval e X.env) :: starEach [] X.env := by rfl) (hpl : (backTo cpos (starEach [] X.env)).any (·.1) = false := by rfl) : PD X W (.Call (.Attribute o "append" apos) [e] [] cpos) (dApp do_ da) :=
  peImp (pe_bm PySem.F.plainAttrs_list PySem.F.slot_list_append PySem.F.type_list_append mt_append ho ha hbase hfew hline hs hpl) fun σ H Q ⟨env, M, q, E, H0, so, S, h, k, kx⟩ =>
    goE so S h kx fun x dx H1 H' M1 e1 so1 S1 rx ⟨c, zs, ec, em, h1⟩ kx1 => by
      subst ec
      cases rx
      obtain ⟨_, us, hu, _⟩ := S1.cell c zs em
      refine ⟨.inl ⟨rfl, us, SqL.of hu⟩, goA so1 S1 h1 kx1 fun xs ds H2 H'' M2 e2 so2 S2 rs ⟨ys, y, ed, em2, hl, w⟩ kx2 => ?_⟩
      subst ed
      obtain ⟨v, rfl, rv⟩ := dnl1 rs
      obtain ⟨_, vs, hv, r⟩ := S2.cell c ys em2
      exact ⟨c, vs, v, rfl, rfl, hv, by rw [r.length]; exact hl, k _ _ H2 _ _ (e1.trans e2) (S2.write em2 (r.app (.one rv))) .non w⟩
def strsD : List D → Option (List Str)
  | [] => some []
  | .str x :: ds => (strsD ds).map (x :: ·)
  | _ => none
theorem strs_dn {K : PySem.W.Frag} {H : Hp} : ∀ {ds : List D} {vs : List V} {bs : List Str}, DnL K H vs ds → strsD ds = some bs → vs = bs.map V.str
  | _, _, _, .nil, e => by cases e; rfl
  | _, _, _, .cons (d := .str b) h r, e => by
    obtain ⟨cs, e1, rfl⟩ := omap (show (strsD _).map (b :: ·) = some _ from e)
    rw [h.inv_str, strs_dn r e1]; rfl
  | _, _, _, .cons (d := .non) _ _, e | _, _, _, .cons (d := .int _) _ _, e | _, _, _, .cons (d := .bl _) _ _, e | _, _, _, .cons (d := .ty _) _ _, e | _, _, _, .cons (d := .lst _) _ _, e
  | _, _, _, .cons (d := .lsf _) _ _, e | _, _, _, .cons (d := .tup _) _ _, e | _, _, _, .cons (d := .dic _ _) _ _, e | _, _, _, .cons (d := .ins _ _ _) _ _, e | _, _, _, .cons (d := .cel _) _ _, e => by cases e
def intsD : List D → Option (List Int)
  | [] => some []
  | .int x :: ds => (intsD ds).map (x :: ·)
  | _ => none
theorem ints_dn {K : PySem.W.Frag} {H : Hp} : ∀ {ds : List D} {vs : List V} {bs : List Int}, DnL K H vs ds → intsD ds = some bs → vs = bs.map V.int
  | _, _, _, .nil, e => by cases e; rfl
  | _, _, _, .cons (d := .int b) h r, e => by
    obtain ⟨cs, e1, rfl⟩ := omap (show (intsD _).map (b :: ·) = some _ from e)
    rw [h.inv_int, ints_dn r e1]; rfl
  | _, _, _, .cons (d := .non) _ _, e | _, _, _, .cons (d := .str _) _ _, e | _, _, _, .cons (d := .bl _) _ _, e | _, _, _, .cons (d := .ty _) _ _, e | _, _, _, .cons (d := .lst _) _ _, e
  | _, _, _, .cons (d := .lsf _) _ _, e | _, _, _, .cons (d := .tup _) _ _, e | _, _, _, .cons (d := .dic _ _) _ _, e | _, _, _, .cons (d := .ins _ _ _) _ _, e | _, _, _, .cons (d := .cel _) _ _, e => by cases e
theorem dn_strs {K : PySem.W.Frag} {H : Hp} : ∀ xs : List Str, DnL K H (xs.map V.str) (xs.map D.str)
  | [] => .nil
  | x :: xs => .cons (.str x) (dn_strs xs)
theorem dn_ints {K : PySem.W.Frag} {H : Hp} : ∀ xs : List Int, DnL K H (xs.map V.int) (xs.map D.int)
  | [] => .nil
  | x :: xs => .cons (.int x) (dn_ints xs)
theorem ints_map : ∀ xs : List Int, intsD (xs.map D.int) = some xs
  | [] => rfl
  | x :: xs => by show (intsD (xs.map D.int)).map (x :: ·) = _; rw [ints_map xs]; rfl
theorem strs_map : ∀ xs : List Str, strsD (xs.map D.str) = some xs
  | [] => rfl
  | x :: xs => by show (strsD (xs.map D.str)).map (x :: ·) = _; rw [strs_map xs]; rfl
def rdSortI : RDL := fun ds M q => ∃ d xs ns, ds = [d] ∧ lsqOf M d = some xs ∧ intsD xs = some ns ∧ ∀ ns' : List Int, ns'.Perm ns → ns'.Pairwise (· ≤ ·) → q (.lst (ns'.map D.int)) M
theorem cd_sortI : CallD X (.builtin "sorted") rdSortI := ⟨_, cr_sortedI, fun H0 H M xs ds q Q S r w k => by
  obtain ⟨d, ys, ns, rfl, e, en, w⟩ := w
  obtain ⟨v, rfl, rv⟩ := dnl1 r
  obtain ⟨a, vs, rfl, hs, rs⟩ := S.lsq rv e
  have z := ints_dn rs en
  subst z
  exact ⟨a, ns, rfl, hs, fun ns' p h1 h2 hp => k.newL S (dn_ints _) (w ns' h1 h2) p hp⟩⟩
def rdMinL : RDL := fun ds M q => ∃ d xs ns, ds = [d] ∧ lsqOf M d = some xs ∧ intsD xs = some ns ∧ 0 < ns.length ∧ ∀ m, m ∈ ns → (∀ y, y ∈ ns → m ≤ y) → q (.int m) M
theorem cd_minL (hc : X.calm = true) : CallD X (.builtin "min") rdMinL := ⟨_, cr_min hc, fun H0 H M xs ds q Q S r w k => by
  obtain ⟨d, ys, ns, rfl, e, en, hl, w⟩ := w
  obtain ⟨v, rfl, rv⟩ := dnl1 r
  obtain ⟨a, vs, rfl, hs, rs⟩ := S.lsq rv e
  have z := ints_dn rs en
  subst z
  exact ⟨a, ns, rfl, hs, hl, fun m h1 h2 => k.here S (.int _) (w m h1 h2)⟩⟩
def keyD : D → Option Key
  | .int i => some (.inl i)
  | .str x => some (.inr x)
  | _ => none
theorem keyD_dn {K : PySem.W.Frag} {H : Hp} {v : V} {d : D} {k : Key} (h : Dn K H v d) (e : keyD d = some k) : v = kV k := by
  cases h <;> first
    | (cases e; rfl)
    | cases e
def getK (kvs : List (Key × D)) (k : Key) : Option D := (kvs.find? fun kv => decide (kv.1 = k)).map (·.2)
def setK (kvs : List (Key × D)) (k : Key) (v : D) : List (Key × D) := if (kvs.any fun kv => decide (kv.1 = k)) = true then kvs.map (fun kv => if kv.1 = k then (kv.1, v) else kv) else kvs ++ [(k, v)]
theorem KvL.length {K : PySem.W.Frag} {H : Hp} : ∀ {r : List (Key × V)} {s : List (Key × D)}, KvL K H r s → r.length = s.length
  | _, _, .nil => rfl
  | _, _, .cons _ b => congrArg (· + 1) (KvL.length b)
theorem KvL.get {K : PySem.W.Frag} {H : Hp} {k : Key} : ∀ {r : List (Key × V)} {s : List (Key × D)}, KvL K H r s → (getK s k = none ∧ valV r k = none) ∨ ∃ v d, getK s k = some d ∧ valV r k = some v ∧ Dn K H v d
  | _, _, .nil => .inl ⟨rfl, rfl⟩
  | _, _, .cons (k := k') (v := v) (d := d) a b => by
    by_cases e : k' = k
    · exact .inr ⟨v, d, by simp [getK, List.find?_cons, e], valV_pos e, a⟩
    · have ih := KvL.get (k := k) b
      have e1 : ∀ s, getK ((k', d) :: s) k = getK s k := fun s => by simp [getK, List.find?_cons, e]
      rw [valV_neg (p := (k', v)) e, e1]
      exact ih
theorem KvL.any {K : PySem.W.Frag} {H : Hp} {k : Key} : ∀ {r : List (Key × V)} {s : List (Key × D)}, KvL K H r s → (r.any fun kv => decide (kv.1 = k)) = s.any fun kv => decide (kv.1 = k)
  | _, _, .nil => rfl
  | _, _, .cons a b => by rw [List.any_cons, List.any_cons, KvL.any b]
theorem KvL.repl {K : PySem.W.Frag} {H : Hp} {k : Key} {v : V} {d : D} (h : Dn K H v d) : ∀ {r : List (Key × V)} {s : List (Key × D)}, KvL K H r s → KvL K H (r.map fun kv => if kv.1 = k then (kv.1, v) else kv) (s.map fun kv => if kv.1 = k then (kv.1, d) else kv)
  | _, _, .nil => .nil
  | _, _, .cons (k := k') a b => by
    rw [List.map_cons, List.map_cons]
    by_cases e : k' = k
    · rw [if_pos e, if_pos e]; exact .cons h (KvL.repl h b)
    · rw [if_neg e, if_neg e]; exact .cons a (KvL.repl h b)
theorem KvL.snoc {K : PySem.W.Frag} {H : Hp} {k : Key} {v : V} {d : D} (h : Dn K H v d) : ∀ {r : List (Key × V)} {s : List (Key × D)}, KvL K H r s → KvL K H (r ++ [(k, v)]) (s ++ [(k, d)])
  | _, _, .nil => .cons h .nil
  | _, _, .cons a b => .cons a (KvL.snoc h b)
theorem KvL.put {K : PySem.W.Frag} {H : Hp} {k : Key} {v : V} {d : D} {r : List (Key × V)} {s : List (Key × D)} (b : KvL K H r s) (h : Dn K H v d) : KvL K H (putK r k v) (setK s k d) := by
  unfold putK setK
  rw [KvL.any b]
  split
  · exact KvL.repl h b
  · exact KvL.snoc h b
theorem SD.dict {K : PySem.W.Frag} {H0 H : Hp} {M : Mem} (S : SD K H0 H M) {c : Addr} {s : List (Key × D)} (h : M c = some (.dc s)) : H0 c = none ∧ ∃ r, H c = some (.dK r) ∧ KvL K H0 r s := S.any c _ h
/-- d[k], there -/
@[reducible] def dDGet (dd dk : DE) : DE := fun env M q E => dd env M (fun o M1 => dk env M1 (fun y M2 => ∃ c s k v, o = .cel c ∧ M2 c = some (.dc s) ∧ keyD y = some k ∧ getK s k = some v ∧ q v M2) E) E
theorem pd_dget {o i : Expr} {dd dk : DE} {pos : Pos} (hu : X.A.units + 1 < cLine) (ho : PD X W o dd) (hi : PD X W i dk) (hs : NoSl i) : PD X W (.Subscript o i pos) (dDGet dd dk) := peImp (pe_dget hu ho hi hs) fun σ H Q ⟨env, M, q, E, H0, so, S, h, k, kx⟩ =>
  goE so S h kx fun x dx H1 H' M1 e1 so1 S1 rx h1 kx1 => goE so1 S1 h1 kx1 fun y dy H2 H'' M2 e2 so2 S2 ry ⟨c, s, kk, d, ec, em, ek, eg, w⟩ kx2 => by
    subst ec
    cases rx
    have z := keyD_dn ry ek
    subst z
    obtain ⟨_, r, hr, kv⟩ := S2.dict em
    rcases kv.get (k := kk) with ⟨g1, _⟩ | ⟨v, d', g1, g2, rv⟩
    · rw [eg] at g1; cases g1
    · rw [eg] at g1; cases g1
      exact ⟨c, v, rfl, by rw [← g2]; exact DGet.k hr, k _ _ H2 _ _ (e1.trans e2) S2 rv w⟩
end
/-- a def that may be called: level k, n arguments -/
def Fok (P : Program) (w : World) (K : PySem.W.Frag) (mg : Str → Option Value) (base : Heap) (x : Str) (k n : Nat) (sd : SpD) : Prop :=
  ∃ (f : Addr) (fd : FuncData) (ps : List Str), mg x = some (.ref f) ∧ PySem.W.keepIn K (.ref f) = true ∧ Binds K fd ps [] ∧ FnOk P w K mg base (L2.CX P w) k f fd ps (spOf K n sd)
def Fgd (P : Program) (w : World) (K : PySem.W.Frag) (mg : Str → Option Value) (base : Heap) (x : Str) (k n : Nat) (sd : SpD) : Prop :=
  ∃ (f : Addr) (fd : FuncData) (ps : List Str), mg x = some (.ref f) ∧ PySem.W.keepIn K (.ref f) = true ∧ Binds K fd ps [] ∧ FnG P w K mg base k f fd ps (spOf K n sd)
section
variable {X : Cx} {W : WX} {k n : Nat} {sd : SpD} {x : Str} {p pos : Pos} {e : Expr} {es : List Expr} {da : DA}
theorem pd_fn (F : Fok X.prog X.w X.K X.mg X.base x k n sd) (hr : Room k X.A) (tk : Takes X W) (ha : AD X W (e :: es) da) (hg : Gl X x := by rfl) (hdb : (x == ("__debug__" : Str)) = false := by decide)
    (he : starEach (e :: es) X.env = (false, eval e X.env) :: starEach es X.env := by rfl) (hpl : (backTo pos (starEach es X.env)).any (·.1) = false := by rfl) : PD X W (.Call (.Name x p) (e :: es) [] pos) (dCall n sd da) := by
  obtain ⟨f, fd, ps, hm, hk, hb, F⟩ := F
  exact pd_call F hr hg hm hk hb tk ha hdb he hpl
theorem pd_fg (F : Fgd X.prog X.w X.K X.mg X.base x k n sd) (hr : Room k X.A) (hgd : X.A.guards = some []) (tk : Takes X W) (ha : AD X W (e :: es) da) (hg : Gl X x := by rfl) (hdb : (x == ("__debug__" : Str)) = false := by decide)
    (he : starEach (e :: es) X.env = (false, eval e X.env) :: starEach es X.env := by rfl) (hpl : (backTo pos (starEach es X.env)).any (·.1) = false := by rfl) : PD X W (.Call (.Name x p) (e :: es) [] pos) (dCall n sd da) := by
  obtain ⟨f, fd, ps, hm, hk, hb, F⟩ := F
  exact pd_callG F hr hgd hg hm hk hb tk ha hdb he hpl
end
theorem Fok.g {P : Program} {w : World} {K : PySem.W.Frag} {mg : Str → Option Value} {base : Heap} {x : Str} {k n : Nat} {sd : SpD} (h : Fok P w K mg base x k n sd) : Fgd P w K mg base x k n sd := by
  obtain ⟨f, fd, ps, a, b, c, d⟩ := h
  exact ⟨f, fd, ps, a, b, c, .of d⟩
/-- what a body may let out, it lets out -/
theorem tkF {P : Program} {w : World} {K : PySem.W.Frag} {mg : Str → Option Value} {base : Heap} {N : List Str} {qual : Str} {scope : Scope} {f : Addr} {cd : Value} {A : Around} {fr : List Env} {s : Shared} {H : Hp} {E : XK} :
    Takes (cxOf (L2.CX P w) P w K mg base N qual scope f cd A fr s H E) (fun c d _ H => E c d H) := takes_of rfl rfl rfl rfl
theorem poF {P : Program} {w : World} {K : PySem.W.Frag} {mg : Str → Option Value} {base : Heap} {N : List Str} {qual : Str} {scope : Scope} {f : Addr} {cd : Value} {A : Around} {fr : List Env} {s : Shared} {H : Hp} {E : XK} :
    PassesOwn (model (cxOf (L2.CX P w) P w K mg base N qual scope f cd A fr s H E).prog (cxOf (L2.CX P w) P w K mg base N qual scope f cd A fr s H E).w) (cxOf (L2.CX P w) P w K mg base N qual scope f cd A fr s H E).A
      (cxOf (L2.CX P w) P w K mg base N qual scope f cd A fr s H E).env (cxOf (L2.CX P w) P w K mg base N qual scope f cd A fr s H E).xe := passes_of rfl
end DL
set_option maxRecDepth 100000
set_option maxHeartbeats 4000000
namespace DL
open PySem PySem.Spec PyProof.Rows L2
@[reducible] def dNever : DS := fun _ _ _ => False
section
variable {X : Cx} {W : WX}
theorem sd_never {st : Stmt} : SDt X W st dNever := ⟨fun pins s σ H D I ⟨env, M, d, H0, so, S, h, k⟩ => h.elim⟩
end
theorem KvL.lk {K : PySem.W.Frag} {H : Hp} {k : Str} : ∀ {r : List (Str × V)} {s : List (Str × D)}, KvL K H r s → (s.lookup k = none ∧ r.lookup k = none) ∨ ∃ v d, s.lookup k = some d ∧ r.lookup k = some v ∧ Dn K H v d
  | _, _, .nil => .inl ⟨rfl, rfl⟩
  | _, _, .cons (k := k') (v := v) (d := d) a b => by
    rw [List.lookup_cons, List.lookup_cons]
    cases e : k == k' with
    | true => exact .inr ⟨v, d, rfl, rfl, a⟩
    | false => exact KvL.lk b
theorem KvL.of {K : PySem.W.Frag} {H : Hp} : ∀ {r : List (Str × V)} {ds : List D}, DnL K H (r.map (·.2)) ds → KvL K H r ((r.map (·.1)).zip ds)
  | [], _, h => by cases h; exact .nil
  | (k, v) :: r, _, h => by
    cases h with
    | cons a b => exact .cons a (KvL.of b)
theorem KvL.split {K : PySem.W.Frag} {H : Hp} : ∀ {r : List (Str × V)} {s : List (Str × D)}, KvL K H r s → r.map (·.1) = s.map (·.1) ∧ DnL K H (r.map (·.2)) (s.map (·.2))
  | _, _, .nil => ⟨rfl, .nil⟩
  | _, _, .cons (k := k) a b => by
    obtain ⟨h1, h2⟩ := KvL.split b
    exact ⟨by rw [List.map_cons, List.map_cons, h1], .cons a h2⟩
/-- its fields -/
def fsOf (M : Mem) (C : Addr) : D → Option (List (Str × D))
  | .ins C' ns vs => if C' = C then some (ns.zip vs) else none
  | .cel c => match M c with
    | some (.ob C' fs) => if C' = C then some fs else none
    | _ => none
  | _ => none
theorem SD.obj {K : PySem.W.Frag} {H0 H : Hp} {M : Mem} (S : SD K H0 H M) {v : V} {d : D} {C : Addr} {fs : List (Str × D)} (h : Dn K H0 v d) (e : fsOf M C d = some fs) : ∃ a dx fvs, v = .ref a ∧ H a = some (.ins C dx fvs) ∧ KvL K H0 fvs fs := by
  cases h with
  | @ins a C' dx fvs ds q r =>
    have e' : (if C' = C then some ((fvs.map (·.1)).zip ds) else none) = some fs := e
    by_cases c : C' = C
    · subst c; rw [if_pos rfl] at e'; cases e'
      exact ⟨a, dx, fvs, rfl, S.ex _ _ q, .of r⟩
    · rw [if_neg c] at e'; cases e'
  | cel a =>
    have e' : (match M a with | some (.ob C' fs) => if C' = C then some fs else none | _ => none) = some fs := e
    split at e'
    · rename_i C' fs' hm
      by_cases c : C' = C
      · subst c; rw [if_pos rfl] at e'; cases e'
        obtain ⟨_, dx, fvs, q, r⟩ := S.any a _ hm
        exact ⟨a, dx, fvs, rfl, q, r⟩
      · rw [if_neg c] at e'; cases e'
    · cases e'
  | _ => cases e
def putD (f : Str) (v : D) : List (Str × D) → List (Str × D)
  | [] => [(f, v)]
  | (g, x) :: r => if g = f then (g, v) :: r else (g, x) :: putD f v r
theorem KvL.putF {K : PySem.W.Frag} {H : Hp} {f : Str} {v : V} {d : D} (h : Dn K H v d) : ∀ {r : List (Str × V)} {s : List (Str × D)}, KvL K H r s → KvL K H (L2.putF f v r) (putD f d s)
  | _, _, .nil => .cons h .nil
  | _, _, .cons (k := g) a b => by
    unfold L2.putF putD
    by_cases e : g = f
    · rw [if_pos e, if_pos e]; exact .cons h b
    · rw [if_neg e, if_neg e]; exact .cons a (KvL.putF h b)
theorem KvL.len {α : Type} {K : PySem.W.Frag} {H : Hp} : ∀ {r : List (α × V)} {s : List (α × D)}, KvL K H r s → r.length = s.length
  | _, _, .nil => rfl
  | _, _, .cons _ b => congrArg (· + 1) (KvL.len b)
theorem SD.freezeO {K : PySem.W.Frag} {H0 H : Hp} {M : Mem} {c C : Addr} {fs : List (Str × D)} (S : SD K H0 H M) (h : M c = some (.ob C fs)) : ∃ o, H0 c = none ∧ SD K (upd H0 c o) H (mdel M c) ∧ Dn K (upd H0 c o) (.ref c) (.ins C (fs.map (·.1)) (fs.map (·.2))) := by
  obtain ⟨n0, dx, fvs, e1, r⟩ := S.any c _ h
  obtain ⟨en, er⟩ := r.split
  refine ⟨.ins C dx fvs, n0, ⟨fun a o q => ?_, fun b ys q => ?_⟩, ?_⟩
  · by_cases z : a = c
    · subst z; rw [upd_same] at q; cases q; exact e1
    · rw [upd_ne z] at q; exact S.ex a o q
  · unfold mdel at q
    by_cases z : b = c
    · rw [if_pos z] at q; cases q
    · rw [if_neg z] at q
      obtain ⟨n1, ok⟩ := S.any b ys q
      exact ⟨by rw [upd_ne z]; exact n1, ok.same (Ext.add n0) rfl⟩
  · rw [← en]
    exact .ins upd_same (er.mono (Ext.add n0))
section
variable {X : Cx} {W : WX}
@[reducible] def dFld (C : Addr) (f : Str) (de : DE) : DE := fun env M q E => de env M (fun o M1 => ∃ fs v, fsOf M1 C o = some fs ∧ fs.lookup f = some v ∧ q v M1) E
theorem pd_fld {e : Expr} {f : Str} {pos : Pos} {de : DE} {C : Addr} (he : PD X W e de) (c : Cls X.K C) (n : NoAttr X.K C f) (hb : attributeBase e f X.env (eval e X.env) = eval e X.env := by rfl) : PD X W (.Attribute e f pos) (dFld C f de) :=
  peImp (pe_fld he hb) fun σ H Q ⟨env, M, q, E, H0, so, S, h, k, kx⟩ => goE so S h kx fun x dx H1 H' M1 e1 so1 S1 rx ⟨fs, v, ef, el, w⟩ kx1 => by
    obtain ⟨a, d, fvs, rfl, q1, r⟩ := S1.obj rx ef
    rcases r.lk (k := f) with ⟨z, _⟩ | ⟨v', d', z, z2, rv⟩
    · rw [el] at z; cases z
    · rw [el] at z; cases z
      exact ⟨a, C, d, fvs, v', rfl, q1, c, n, z2, k _ _ H1 _ _ e1 S1 rv w⟩
@[reducible] def dFSet (C : Addr) (f : Str) (do_ dv : DE) : DS := fun d env M => dv env M (fun v M1 => do_ env M1 (fun o M2 => ∃ c fs, o = .cel c ∧ M2 c = some (.ob C fs) ∧ fs.length < 1000 ∧ d.nx env (mset M2 c (.ob C (putD f v fs)))) (d.ex env)) (d.ex env)
theorem sd_fset {o value : Expr} {f : Str} {pos pos' : Pos} {do_ dv : DE} {C : Addr} (ho : PD X W o do_) (c : Cls X.K C) (n : NoAttr X.K C f) (hv : PD X W value dv) (hs : swapsWith value (some (.Attribute o f pos')) pos.line X.env = pure false := by rfl) : SDt X W (.Assign [.Attribute o f pos'] value pos) (dFSet C f do_ dv) :=
  psImp (ps_fld ho hv hs) fun D σ H ⟨env, M, d, H0, so, S, h, k⟩ => goE so S h (k.ex.at so) fun x dx H1 H' M1 e1 so1 S1 rx h1 kx1 => goE so1 S1 h1 kx1 fun y dy H2 H'' M2 e2 so2 S2 ry ⟨p, fs, ec, em, hl, w⟩ kx2 => by
    subst ec
    cases ry
    obtain ⟨n0, d', fvs, q, r⟩ := S2.any p _ em
    exact ⟨p, C, d', fvs, rfl, q, c, n, by rw [r.len]; exact hl, k.nx _ _ H2 _ _ (e1.trans e2) so2 (S2.put (x := .ob C (putD f dx fs)) n0 fun _ e => ⟨d', _, e, r.putF (rx.mono e2)⟩) w⟩
/-- a method that may be called -/
def Mok (P : Program) (w : World) (K : PySem.W.Frag) (mg : Str → Option Value) (base : Heap) (C : Addr) (m : Str) (k n : Nat) (sd : SpD) : Prop :=
  Cls K C ∧ ∃ (f : Addr) (fd : FuncData) (ps : List Str), Meth K C m f ∧ PySem.W.fnIn K f = true ∧ Binds K fd ps [] ∧ FnOk P w K mg base (L2.CX P w) k f fd ps (spOf K n sd)
@[reducible] def dMeth (C : Addr) (m : Str) (n : Nat) (sd : SpD) (do_ : DE) (da : DA) : DE := fun env M q E => do_ env M (fun o M1 => ∃ fs, fsOf M1 C o = some fs ∧ fs.lookup m = none ∧ da env M1 (fun ds M2 => ds.length + 1 = n ∧ sd (o :: ds) M2 q E) E) E
theorem KvL.no {K : PySem.W.Frag} {H : Hp} {k : Str} {r : List (Str × V)} {s : List (Str × D)} (b : KvL K H r s) (h : s.lookup k = none) : r.lookup k = none := by
  rcases b.lk (k := k) with ⟨_, z⟩ | ⟨v, d, z, _, _⟩
  · exact z
  · rw [h] at z; cases z
theorem pd_meth {k n : Nat} {C : Addr} {m : Str} {sd : SpD} {o e : Expr} {es : List Expr} {do_ : DE} {da : DA} {apos pos : Pos} {pl : Sem Bool} (F : Mok X.prog X.w X.K X.mg X.base C m k n sd) (hr : Room k X.A) (tk : Takes X W) (ho : PD X W o do_) (ha : AD X W (e :: es) da)
    (hst : starEach (e :: es) X.env = (false, eval e X.env) :: starEach es X.env := by rfl) (hpl : (backTo pos (starEach es X.env)).any (·.1) = false := by rfl)
    (ht : eval (.Call (.Attribute o m apos) (e :: es) [] pos) X.env = (do
      let ov ← eval o X.env
      standAt apos.atName
      let (f, first) ← holding [ov] (getMethod ov m pl)
      callWith pos f first (backTo pos (starEach (e :: es) X.env)) (backToKw pos (keywordEach [] X.env))) := by rfl) : PD X W (.Call (.Attribute o m apos) (e :: es) [] pos) (dMeth C m n sd do_ da) := by
  obtain ⟨c, f, fd, ps, hm, _, hb, F⟩ := F
  constructor
  intro pins s σ H Q I ⟨env, M, q, E, H0, so, S, h, kq, kx⟩
  refine PySem.W.methodCall_KW (pl := pl) (wpAny_mono (PE.run ho pins s σ H (fun x H1 => ∃ a dx fs, x = .ref a ∧ H1 a = some (.ins C dx fs) ∧ fs.lookup m = none ∧ liftA X.K W da σ H1 fun vs H2 => spOf X.K n sd (x :: vs) H2 Q (WE W σ)) I
    (goE so S h kx fun x dx H1 H' M1 e1 so1 S1 rx ⟨fs, ef, el, w⟩ kx1 => ?_)) (fun u s1 ⟨x, H1, I1, rx, a, dx, fs, ex, ea, l, q1⟩ => ?_) fun _ _ z => z) ht
  · obtain ⟨a, dd, fvs, rfl, q1, r⟩ := S1.obj rx ef
    exact ⟨a, dd, fvs, rfl, q1, r.no el, goA so1 S1 w kx1 fun vs ds H2 H'' M2 e2 so2 S2 rs ⟨hl, w2⟩ kx2 => ⟨dx :: ds, M2, q, E, H2, hl, .cons (rx.mono e2) rs, S2, w2, kq.mono (e1.trans e2), kx2⟩⟩
  · subst ex
    obtain rfl : u = Value.ref a := rx
    refine getmeth_ok I1 ea c hm l ?_
    refine PySem.W.callWith_K (first := [.ref a]) (h₀ := X.base) I.ok.mod.kin hm.kp (wpAny_mono (PA.run (t := liftA X.K W da) ha pos pins s1 σ H1 _ I1 q1) (fun us s2 ⟨vs, H2, I2, r, q2⟩ => ⟨I2.kIn, ?_⟩) fun _ _ z => z) hst hpl
    exact run_fnSD (E := WE W) (us := .ref a :: us) (vs := .ref a :: vs) F hr hb .nil (passAt tk σ) I2 (.cons rfl r) (by rw [List.append_nil]; exact q2)
/-- C(e, ..), an object that changes no more behind its __init__ -/
def Kok (P : Program) (w : World) (K : PySem.W.Frag) (mg : Str → Option Value) (base : Heap) (x : Str) (C : Addr) (k n : Nat) (sd : SpD) : Prop :=
  ∃ (f : Addr) (fd : FuncData) (ps : List Str), mg x = some (.ref C) ∧ Mk K C f ∧ Binds K fd ps [] ∧ FnOk P w K mg base (L2.CX P w) k f fd ps (spOf K n sd)
@[reducible] def dMake (C : Addr) (n : Nat) (sd : SpD) (da : DA) : DE := fun env M q E => da env M (fun ds M1 => ds.length + 1 = n ∧ ∀ c, M1 c = none → sd (.cel c :: ds) (mset M1 c (.ob C [])) (fun v M2 => v = .non ∧ ∃ fs, M2 c = some (.ob C fs) ∧ q (.ins C (fs.map (·.1)) (fs.map (·.2))) (mdel M2 c)) E) E
theorem made_D {K : PySem.W.Frag} {H0 H : Hp} {M : Mem} {x dx C : Addr} (S : SD K H0 H M) (hx : H x = none) (hd : H dx = none) (ne : dx ≠ x) : SD K H0 (upd (upd H dx (.own x)) x (.ins C dx [])) (mset M x (.ob C [])) := by
  have S1 : SD K H0 (upd H dx (.own x)) M := S.aside hd
  exact S1.put (S.fresh hx).1 fun _ e => ⟨dx, [], e, .nil⟩
theorem run_makeD {k n : Nat} {C f : Addr} {fd : FuncData} {ps : List Str} {sd : SpD} {pins : List (Addr × Obj)} {σ : L2.St} {H : Hp} {s : Shared} {Q : VK} {us : List Value} {vs : List V} (Mm : Mk X.K C f) (F : FnOk X.prog X.w X.K X.mg X.base (L2.CX X.prog X.w) k f fd ps (spOf X.K n sd))
    (hr : Room (k + 1) X.A) (hb : Binds X.K fd ps []) (tk : Takes X W) (I : Inv X pins σ H s) (r : Vals vs us)
    (h : ∀ x dx, H x = none → H dx = none → dx ≠ x → spOf X.K n sd (.ref x :: vs) (upd (upd H dx (.own x)) x (.ins C dx [])) (fun v H2 => v = .non ∧ Q (.ref x) H2) (WE W σ)) :
    wpAny (model X.prog X.w) X.A (call (.ref C) us) (EP X pins σ Q) X.xe s := by
  have hq := h (s.heap.objs.size + 1) s.heap.objs.size (I.hok.fresh (Nat.le_succ _)) (I.hok.fresh (Nat.le_refl _)) (Nat.ne_of_lt (Nat.lt_succ_self _))
  have I2 := Inv.made (C := C) I
  have r2 : Vals (V.ref (s.heap.objs.size + 1) :: vs) (Value.ref (s.heap.objs.size + 1) :: us) := .cons rfl r
  have hl : (Value.ref (s.heap.objs.size + 1) :: us ++ []).length = ps.length := by
    rw [List.append_nil]
    have e := r2.length
    rw [F.len _ _ _ _ hq] at e
    exact e.symm
  have hbb := hb _ (Value.ref (s.heap.objs.size + 1) :: us) I2.kIn hl
  rw [List.append_nil] at hbb
  refine wpAny_call (make_map (f := f) I.kIn Mm.makes Mm.init (beq_iff_eq.mp Mm.fn) (codeAny_mono (F.run _ X.stack _ _ ⟨Value.ref (s.heap.objs.size + 1) :: us, []⟩ (Value.ref (s.heap.objs.size + 1) :: us) _ _ (WE W σ) (hr.make C us [])
    (I2.env0.make C us []) hbb r2 hq) fun r s' hq' => ?_))
  cases r with
  | error e => exact passAt tk σ pins _ _ e s' I2 hq'
  | ok fl =>
    cases fl with
    | ret u =>
      obtain ⟨v, H', I3, rv, ev, q3⟩ := I2.after hq'
      subst ev
      exact ⟨rv, ⟨V.ref (s.heap.objs.size + 1), H', I3, rfl, q3⟩⟩
    | next => exact False.elim hq'
    | brk => exact False.elim hq'
    | cont => exact False.elim hq'
theorem pd_make {k n : Nat} {C : Addr} {x : Str} {sd : SpD} {e : Expr} {es : List Expr} {da : DA} {p pos : Pos} (F : Kok X.prog X.w X.K X.mg X.base x C k n sd) (hr : Room (k + 1) X.A) (tk : Takes X W) (ha : AD X W (e :: es) da) (hg : Gl X x := by rfl)
    (hdb : (x == ("__debug__" : Str)) = false := by decide) (he : starEach (e :: es) X.env = (false, eval e X.env) :: starEach es X.env := by rfl) (hpl : (backTo pos (starEach es X.env)).any (·.1) = false := by rfl) : PD X W (.Call (.Name x p) (e :: es) [] pos) (dMake C n sd da) := by
  obtain ⟨f, fd, ps, hm, Mm, hb, F⟩ := F
  constructor
  intro pins s σ H Q I ⟨env, M, q, E, H0, so, S, h, kq, kx⟩
  refine wpAny_Call_Name_kw (ld_glob I hg hm ?_ hdb)
  refine PySem.W.callWith_K (h₀ := X.base) I.ok.mod.kin Mm.kp (wpAny_mono (PA.run ha pos pins s σ H (fun vs H1 => ∀ x dx, H1 x = none → H1 dx = none → dx ≠ x → spOf X.K n sd (.ref x :: vs) (upd (upd H1 dx (.own x)) x (.ins C dx [])) (fun v H2 => v = .non ∧ Q (.ref x) H2) (WE W σ)) I
    (goA so S h kx fun vs ds H1 H' M1 e1 so1 S1 rs ⟨hl, w⟩ kx1 x dx hx hd ne => ?_)) (fun us s1 ⟨vs, H1, I1, r, q1⟩ => ⟨I1.kIn, run_makeD Mm F hr hb tk I1 r q1⟩) fun _ _ z => z) he hpl
  refine ⟨.cel x :: ds, _, _, E, H1, hl, .cons (.cel x) rs, made_D S1 hx hd ne, w x (S1.fresh hx).2, fun v d H2 H2' M2 e2 S2 rv ⟨ev, fs, em, z⟩ => ?_, kx1⟩
  subst ev
  refine ⟨rv.inv_non, ?_⟩
  obtain ⟨o, n0, S3, r3⟩ := S2.freezeO em
  exact kq _ _ _ H2' _ ((e1.trans e2).trans (Ext.add n0)) S3 r3 z
def KD (X : Cx) (W : WX) (kws : List Keyword) (da : DA) : Prop := PK X kws (liftA X.K W da)
theorem pkImp {kws : List Keyword} {t t' : TA} (h : PK X kws t) (i : ∀ σ H Q, t' σ H Q → t σ H Q) : PK X kws t' := ⟨fun pos pins s σ H Q I q => h.run pos pins s σ H Q I (i σ H Q q)⟩
theorem kd_nil : KD X W [] dNil := pkImp pk_nil fun σ H Q ⟨env, M, q, E, H0, so, S, h, k, kx⟩ => k [] [] H0 H M (Ext.refl H0) S .nil h
theorem kd_cons {nm : Option Str} {e : Expr} {kpos : Pos} {kws : List Keyword} {de : DE} {da : DA} (he : PD X W e de) (hr : KD X W kws da) : KD X W (⟨nm, e, kpos⟩ :: kws) (dCons de da) :=
  pkImp (pk_cons he hr) fun σ H Q ⟨env, M, q, E, H0, so, S, h, k, kx⟩ =>
    goE so S h kx fun x dx H1 H' M1 e1 so1 S1 rx h1 kx1 => goA so1 S1 h1 kx1 fun xs ds H2 H'' M2 e2 so2 S2 rs h2 kx2 => k _ _ H2 H'' M2 (e1.trans e2) S2 (.cons (rx.mono e2) rs) h2
@[reducible] def dPar2 (i j : Nat) (da : DA) : DS := fun d env M => da env M (fun ds M1 => ∃ a b, ds = [a, b] ∧ d.nx ((env.set i (some a)).set j (some b)) M1) (d.ex env)
theorem sd_par2 (i j : Nat) {x y : Str} {a b : Expr} {da : DA} {px py pt pos : Pos} {kt k2 pt2} (hc : X.calm = true) (hN : X.N.Nodup) (ha : AD X W [a, b] da) (hi : X.N[i]? = some x := by rfl) (hj : X.N[j]? = some y := by rfl) (hij : i ≠ j := by decide)
    (hx : X.env.scope.names.lookup x = some .local := by rfl) (hy : X.env.scope.names.lookup y = some .local := by rfl)
    (hw : swappedStores [.Tuple [.Name x px, .Name y py] kt pt] (.Tuple [a, b] k2 pt2) X.env = pure (some [x, y]) := by rfl)
    (hs : swapsWithSole [.Tuple [.Name x px, .Name y py] kt pt] (.Tuple [a, b] k2 pt2) pos.line X.env = pure false := by rfl) :
    SDt X W (.Assign [.Tuple [.Name x px, .Name y py] kt pt] (.Tuple [a, b] k2 pt2) pos) (dPar2 i j da) :=
  psImp (ps_par hc hN hi hj hij hx hy ha hw hs) fun D σ H ⟨env, M, d, H0, so, S, h, k⟩ => goA so S h (k.ex.at so) fun vs ds H1 H' M1 e1 so1 S1 rs ⟨a, b, ed, w⟩ kx1 => by
    subst ed
    obtain ⟨v, u, rfl, rv, ru⟩ := dnl2 rs
    exact ⟨v, u, rfl, k.nx _ _ H1 H' M1 e1 ((so1.set i rv).set j ru) S1 w⟩
end
end DL
set_option maxRecDepth 100000
set_option maxHeartbeats 4000000
namespace DL
open PySem PySem.Spec PyProof.Rows L2 PySem.W RZ
theorem meets_enumT (l : Addr) (items : Array Value) (n : Nat) (dct : Option Addr) (sl : Array (Option Value)) :
    Meets (Builtin.«enumerate.__new__» ⟨[.type "enumerate", .ref l], []⟩) (fun _ R s => s.heap.get? l = some ⟨.type "tuple", dct, .seq items n, sl⟩ ∧
      R (.ok (.ret (.ref (s.heap.push { cls := .type "tuple_iterator", data := .fields #[.ref l, .int 0 0] }).objs.size)))
        { s with heap := (s.heap.push { cls := .type "tuple_iterator", data := .fields #[.ref l, .int 0 0] }).push { cls := .type "enumerate", data := .fields #[.none, .bool false, .ref s.heap.objs.size, rawInt 0, .none, .none] } }) :=
  .of_wp fun prog w A R s h => by
    obtain ⟨hp, g, d, tk, os⟩ := s
    obtain ⟨h1, h⟩ := h
    have hsub := sub_enumerate
    have q1 : ∀ {A' : Around} {E : Value → Shared → Prop} {Q : Value → Shared → Prop}, Q (.ref hp.objs.size) ⟨hp.push { cls := .type "tuple_iterator", data := .fields #[.ref l, .int 0 0] }, g, d, tk, os⟩ → wpAny (model prog w) A' (pyIter (.ref l)) Q E ⟨hp, g, d, tk, os⟩ :=
      fun q => wpAny_pyIter_tuple (s := ⟨hp, g, d, tk, os⟩) (show hp.IsTuple l items from ⟨_, h1, rfl, n, rfl⟩) q
    wp_walk using q1
    refine wpAny_stack_any fun st => wpAny_pure ?_
    split
    · rename_i c _ _ _ _ _
      cases (c == Value.type "enumerate")
      · wp_walk using q1
        exact ⟨_, rfl, h⟩
      · wp_walk using q1
        exact ⟨_, rfl, h⟩
    · wp_walk using q1
      exact ⟨_, rfl, h⟩
section
variable {prog : Program} {w : World} {A : Around} {E : Value → Shared → Prop} {s : Shared}
theorem call_enumT {l : Addr} {items : Array Value} {Q : Value → Shared → Prop} (hL : s.heap.IsTuple l items)
    (h : ∀ h', IsEnum h' (s.heap.objs.size + 1) s.heap.objs.size 0 .none → h'.IsTupleIter s.heap.objs.size l 0 → h'.objs.size = s.heap.objs.size + 2 →
      (∀ b o, s.heap.get? b = some o → h'.get? b = some o) → Q (.ref (s.heap.objs.size + 1)) { s with heap := h' }) :
    wpAny (model prog w) A (call (.type "enumerate") [.ref l]) Q E s := by
  obtain ⟨⟨c, dct, dt, sl⟩, hl, hc, n, hd⟩ := hL
  replace hc : c = .type "tuple" := hc
  replace hd : dt = .seq items n := hd
  subst hc hd
  refine callType_new F.called_enumerate (by decide) (F.typeCall_enumerate_1 _) (F.newCall_enumerate_1 _) (fun obj => F.args_object_init_2 obj _) F.entry_enumerate_new
    (meets_enumT l items n dct sl) ⟨hl, ?_⟩
  have hz : (s.heap.push { cls := .type "tuple_iterator", data := .fields #[.ref l, .int 0 0] }).objs.size = s.heap.objs.size + 1 := Heap.size_push ..
  show _ ∧ _
  rw [hz]
  have he : IsEnum ((s.heap.push { cls := .type "tuple_iterator", data := .fields #[.ref l, .int 0 0] }).push
      { cls := .type "enumerate", data := .fields #[.none, .bool false, .ref s.heap.objs.size, rawInt 0, .none, .none] }) (s.heap.objs.size + 1) s.heap.objs.size 0 .none := by
    have := Heap.get?_push_size (s.heap.push { cls := .type "tuple_iterator", data := .fields #[.ref l, .int 0 0] })
      (o := { cls := .type "enumerate", data := .fields #[.none, .bool false, .ref s.heap.objs.size, rawInt 0, .none, .none] }) rfl
    rw [hz] at this; exact this
  refine ⟨⟨_, he, rfl⟩, h _ he ⟨_, Heap.get?_push_of_some _ (Heap.get?_push_size _ rfl), rfl, rfl⟩ (by rw [Heap.size_push, hz]) fun b o x => Heap.get?_push_of_some _ (Heap.get?_push_of_some _ x)⟩
theorem enumT_end {e it l : Addr} {i : Nat} {items : Array Value} {old : Value} {Q : Option Value → Shared → Prop} (hh : A.handled = none) (he : IsEnum s.heap e it i old) (hit : s.heap.IsTupleIter it l i) (hl : s.heap.IsTuple l items) (hx : items[i]? = none)
    (hQ : ∀ h', Heap.ExtBut it s.heap h' → Q none { s with heap := h' }) : wpAny (model prog w) A (pyNext (.ref e)) Q E s := by
  have hT : s.TypeIs (.ref e) "enumerate" := ⟨_, he, rfl⟩
  unfold pyNext
  refine wpAny_bind (wpAny_attempt (wpAny_callSpecial?_slot (name := Str.ofString "__next__") hT F.slot_enumerate_next
    (wpAny_call_entry F.slot_enumerate_next hT F.entry_enumerate_next ?_ (F.args_enumerate_next_1 _))))
  show wpAny _ _ (field (.ref e) 2 >>= _) _ _ _
  refine wpAny_bind (wpAny_field he rfl (x := .ref it) rfl ?_)
  refine wpAny_bind (wpAny_nextOf_tuple_end (show A.in1.handled = none from hh) hit hl hx fun h' x he' hx' => ?_)
  obtain ⟨o, ho, hc⟩ := hx'
  refine wpAny_bind (wpAny_isInstance (T := "StopIteration") (b := true) ⟨o, ho, hc⟩ isSubtype_stop ?_)
  exact wpAny_pure (hQ _ he')
end
def IteT (K : PySem.W.Frag) (a : Addr) : It :=
  ⟨fun i H => ∃ (xs : List V) (x : V), SqT K H a xs ∧ xs[i]? = some x, fun i H v H' => ∃ T x, v = .ref T ∧ H T = none ∧ H' = upd H T (.tup [.int (i : Nat), x]) ∧ ∀ xs, SqT K H a xs → xs[i]? = some x, fun i H => ∃ xs : List V, SqT K H a xs ∧ xs.length ≤ i⟩
theorem turn_enumT {P : Program} {w : World} {K : PySem.W.Frag} {elts : List Expr} {kk : Nat} {tpos : Pos} (a e it : Addr) :
    Turn P w K (.Tuple elts kk tpos) (IteT K a) [e, it] e (fun i h => (∃ old, IsEnum h e it ((i : Nat) : Int) old) ∧ h.IsTupleIter it a i ∧ e ≠ it ∧ a ≠ it ∧ a ≠ e) where
  mem := by simp
  obj := fun i h st b hb => by
    obtain ⟨⟨old, he⟩, ⟨o, ho, hc, hd⟩, _⟩ := st
    have e' : b = e ∨ b = it := by simpa using hb
    rcases e' with z | z
    · rw [z]; exact ⟨_, he, fun v q => nomatch q⟩
    · rw [z]; exact ⟨o, ho, fun v q => by rw [hd] at q; cases q⟩
  keep := fun i h h' st k => let ⟨⟨old, he⟩, hi, hne⟩ := st; ⟨⟨old, k e (by simp) _ he⟩, hi.at fun o q => k it (by simp) o q, hne⟩
  item := by
    intro X hP hw hK hc i pins s σ H E I hf st hg
    subst hP hw hK
    obtain ⟨⟨old, he⟩, hit, hne, hai, hae⟩ := st
    obtain ⟨xs, x, hq, hx⟩ := hg
    obtain ⟨its, rv, p, hz⟩ := I.tuple hq
    obtain ⟨u, hu, ru⟩ := rv.get hx
    have hel : e < s.heap.objs.size := Heap.lt_size he
    have hil : it < s.heap.objs.size := by obtain ⟨_, q, _⟩ := hit; exact Heap.lt_size q
    have D := Draws.tuple (prog := X.prog) (w := X.w) (A := X.A.in1) (show X.A.in1.handled = none from I.ok.hd hc) it a hai its.toArray
    have hlt : i < its.toArray.size := by
      have := List.getElem?_eq_some_iff.mp hu
      obtain ⟨q, _⟩ := this
      simpa using q
    refine wpAny_pyNext_enum_itemD D he ⟨hit, show s.heap.IsTuple a its.toArray from p⟩ hlt hne (by simp [hne, Ne.symm hae]) fun y h' tk hy ho st' hT hsz hk => ?_
    have ey : y = u := by
      have : some y = some u := by rw [← hy]; simpa using hu
      exact Option.some.inj this
    subst ey
    refine ⟨_, rfl, wpAny_letOwnedTupleGo_enum (s := { s with heap := h', toks := tk + 1 }) ho fun h'' he' sb => ?_⟩
    have hT2 : h''.get? s.heap.objs.size = some { cls := .type "tuple", data := .seq #[.int i tk, y] } := (sb.2 _ (Nat.ne_of_gt hel)).trans hT
    have new : ObjOk X.prog X.w (upd H s.heap.objs.size (.tup [.int (i : Nat), x])) h'' s.heap.objs.size (.tup [.int (i : Nat), x]) :=
      ⟨by show 2 ≤ sizeLine; decide, [.int i tk, y], .cons ⟨_, rfl⟩ (.cons ru .nil), ⟨_, hT2, rfl, _, rfl⟩⟩
    have I1 : Inv X pins σ (upd H s.heap.objs.size (.tup [.int (i : Nat), x])) { s with heap := h'', toks := tk + 1 } :=
      I.turnedNew (ch := [e, it]) (fun b ob hb q => (sb.2 b (fun z => hb (by simp [z]))).trans (hk b ob (fun z => hb (by simp [z])) (fun z => hb (by simp [z])) q)) hf (Nat.le_refl _) new
    refine ⟨.ref s.heap.objs.size, _, I1, rfl, ⟨_, x, rfl, I.hok.fresh (Nat.le_refl _), rfl, fun ys hy => by rw [I.tuple_inj hy hq]; exact hx⟩, ⟨⟨y, ?_⟩, st'.1.at fun o q => (sb.2 it (Ne.symm hne)).trans q, hne, hai, hae⟩, fun b hb => ?_⟩
    · have e1 : ((i + 1 : Nat) : Int) = (i : Int) + 1 := by omega
      rw [e1]; exact he'
    · have hb' : b < s.heap.objs.size := by
        have e' : b = e ∨ b = it := by simpa using hb
        rcases e' with z | z
        · rw [z]; exact hel
        · rw [z]; exact hil
      rw [upd_ne (Nat.ne_of_lt hb')]
      exact (hf b hb).1
  done := by
    intro X hP hw hK hc i pins s σ H E I hf st hg
    subst hP hw hK
    obtain ⟨⟨old, he⟩, hit, hne, hai, hae⟩ := st
    obtain ⟨xs, hq, hx⟩ := hg
    obtain ⟨its, rv, p, hz⟩ := I.tuple hq
    obtain ⟨f0, f1, f2, f3, f4, f5⟩ := hf it (by simp)
    have hl := rv.length
    exact enumT_end (I.ok.hd hc) he hit (show s.heap.IsTuple a its.toArray from p) (by simp; omega) fun h' eb => ⟨rfl, I.turned (t' := s.toks) (fun b o hb q => eb b o hb q) f0 f1 f3 f4 f5⟩
  self := fun A i s Q E st h => let ⟨⟨_, he⟩, _⟩ := st; wpAny_pyIter_enum he h
/-- enumerate of a list or a tuple -/
def iEnumA (K : PySem.W.Frag) (ta : TA) : TI := fun σ H R => ta σ H fun vs H1 => ∃ a xs, vs = [.ref a] ∧ ((SqL K H1 a xs ∧ R (Ite K a) H1) ∨ (SqT K H1 a xs ∧ R (IteT K a) H1))
theorem pi_enumA {X : Cx} {e : Expr} {ta : TA} {p pos tpos : Pos} {elts : List Expr} {kk : Nat} (hg : Gl X "enumerate") (hm : X.mg "enumerate" = none) (ha : PA X [e] ta) (hs : starEach [e] X.env = [(false, eval e X.env)] := by rfl) :
    PI X (.Tuple elts kk tpos) (.Call (.Name "enumerate" p) [e] [] pos) (iEnumA X.K ta) := by
  refine ⟨fun pins s σ H R I h => ?_⟩
  refine Call_ (ld_blt I hg hm boot_enumerate (PyProof.Rows.callWith_type1 (thn (ha.run pos pins s σ H _ I h) fun us s1 ⟨vs, H1, I1, r1, q1⟩ => ?_) hs rfl))
  obtain ⟨a, xs, ex, q1⟩ := q1
  subst ex
  cases r1 with
  | cons r rr =>
    cases rr
    cases r
    have fr2 : ∀ b ∈ [s1.heap.objs.size + 1, s1.heap.objs.size], FpOk X pins H1 b := fun b hb => by
      have e' : b = s1.heap.objs.size + 1 ∨ b = s1.heap.objs.size := by simpa using hb
      have hle : s1.heap.objs.size ≤ b := by
        rcases e' with z | z
        · rw [z]; exact Nat.le_add_right _ _
        · rw [z]; exact Nat.le_refl _
      exact I1.fpOk hle (I1.hok.fresh hle)
    rcases q1 with ⟨hq, q⟩ | ⟨hq, q⟩
    · obtain ⟨its, rv, p', hz⟩ := I1.list hq
      refine call_enumerate_list p'.isList fun h' he hit hsz hk => wpAny_pyIter_enum he ?_
      have I2 : Inv X pins σ H1 { s1 with heap := h' } := I1.kept (t' := s1.toks) hk
      exact ⟨s1.heap.objs.size + 1, [s1.heap.objs.size + 1, s1.heap.objs.size], _, _, H1, rfl, I2, turn_enum a (s1.heap.objs.size + 1) s1.heap.objs.size, ⟨⟨.none, he⟩, hit, Nat.succ_ne_self _⟩, fr2, q⟩
    · obtain ⟨its, rv, p', hz⟩ := I1.tuple hq
      have hlt : a < s1.heap.objs.size := by obtain ⟨o, ho, _⟩ := id p'; exact Heap.lt_size ho
      refine call_enumT (show s1.heap.IsTuple a its.toArray from p') fun h' he hit hsz hk => wpAny_pyIter_enum he ?_
      have I2 : Inv X pins σ H1 { s1 with heap := h' } := I1.kept (t' := s1.toks) hk
      exact ⟨s1.heap.objs.size + 1, [s1.heap.objs.size + 1, s1.heap.objs.size], _, _, H1, rfl, I2, turn_enumT a (s1.heap.objs.size + 1) s1.heap.objs.size, ⟨⟨.none, he⟩, hit, Nat.succ_ne_self _, Nat.ne_of_lt hlt, Nat.ne_of_lt (Nat.lt_succ_of_lt hlt)⟩, fr2, q⟩
/-- pairs made anew at each turn -/
theorem mk_pair {K : PySem.W.Frag} {H0 H : Hp} {M : Mem} {T : Addr} {x y : V} {dx dy : D} (S : SD K H0 H M) (hT : H T = none) (rx : Dn K H0 x dx) (ry : Dn K H0 y dy) : ∃ H2, Ext H0 H2 ∧ SD K H2 (upd H T (.tup [x, y])) M ∧ Dn K H2 (.ref T) (.tup [dx, dy]) :=
  ⟨_, Ext.add (S.fresh hT).1, S.new hT, .tup (SqT.of upd_same) (.cons (rx.mono (Ext.add (S.fresh hT).1)) (.cons (ry.mono (Ext.add (S.fresh hT).1)) .nil))⟩
def enumD (xs : List D) : List D := (rngD 0 xs.length).zipWith (fun i x => .tup [i, x]) xs
theorem enumD_get {xs : List D} {i : Nat} {d : D} (h : (enumD xs)[i]? = some d) : ∃ x, xs[i]? = some x ∧ d = .tup [.int (i : Nat), x] := by
  unfold enumD rngD at h
  rw [List.getElem?_zipWith] at h
  cases hx : xs[i]? with
  | none => rw [hx] at h; simp at h
  | some x =>
    rw [hx] at h
    have hi := (List.getElem?_eq_some_iff.mp hx).1
    simp [List.getElem?_range hi] at h
    exact ⟨x, rfl, h.symm⟩
theorem enumD_len {xs : List D} : (enumD xs).length = xs.length := by
  unfold enumD rngD
  simp
theorem ite_ok {K : PySem.W.Frag} {H0 : Hp} {a : Addr} {d : D} {xs : List D} (hl : ∀ H0' H M, Ext H0 H0' → SD K H0' H M → seqOf M d = some xs → ∃ vs, SqL K H a vs ∧ DnL K H0' vs xs) : ItOk K H0 (Ite K a) (enumD xs) (fun M => seqOf M d = some xs) where
  go := fun H0' H M i y e S ok hi => by
    obtain ⟨x, hx, rfl⟩ := enumD_get hi
    obtain ⟨vs, hs, r⟩ := hl H0' H M e S ok
    obtain ⟨v, hv, rv⟩ := r.get hx
    exact ⟨⟨vs, v, hs, hv⟩, fun z H' ⟨T, u, e1, hT, e2, e3⟩ => by
      subst e1 e2
      have := e3 vs hs
      rw [hv] at this
      cases this
      exact mk_pair S hT (.int _) rv⟩
  stop := fun H0' H M i e S ok hi => by
    obtain ⟨vs, hs, r⟩ := hl H0' H M e S ok
    exact ⟨vs, hs, by rw [r.length]; rw [enumD_len] at hi; exact hi⟩
theorem iteT_ok {K : PySem.W.Frag} {H0 : Hp} {a : Addr} {xs : List D} {vs : List V} (h : SqT K H0 a vs) (r : DnL K H0 vs xs) (ok : Mem → Prop) : ItOk K H0 (IteT K a) (enumD xs) ok where
  go := fun H0' H M i y e S _ hi => by
    obtain ⟨x, hx, rfl⟩ := enumD_get hi
    obtain ⟨v, hv, rv⟩ := r.get hx
    have hs : SqT K H a vs := (e.trans S.ex).sqT h
    exact ⟨⟨vs, v, hs, hv⟩, fun z H' ⟨T, u, e1, hT, e2, e3⟩ => by
      subst e1 e2
      have := e3 vs hs
      rw [hv] at this
      cases this
      exact mk_pair S hT (.int _) (rv.mono e)⟩
  stop := fun H0' H M i e S _ hi => ⟨vs, (e.trans S.ex).sqT h, by rw [r.length]; rw [enumD_len] at hi; exact hi⟩
section
variable {X : Cx} {W : WX}
@[reducible] def dEnum (da : DA) : DI := fun env M q E => da env M (fun ds M1 => ∃ d xs, ds = [d] ∧ seqOf M1 d = some xs ∧ q (enumD xs) (fun M' => seqOf M' d = some xs) M1) E
theorem id_enum {e : Expr} {da : DA} {p pos tpos : Pos} {elts : List Expr} {kk : Nat} (hg : Gl X "enumerate") (hm : X.mg "enumerate" = none) (ha : AD X W [e] da) (hs : starEach [e] X.env = [(false, eval e X.env)] := by rfl) : ID X W (.Tuple elts kk tpos) (.Call (.Name "enumerate" p) [e] [] pos) (dEnum da) :=
  piImp (pi_enumA hg hm ha hs) fun σ H R ⟨env, M, q, E, H0, so, S, h, k, kx⟩ => goA so S h kx fun vs ds H1 H' M1 e1 so1 S1 rs ⟨d, xs, ed, ex, w⟩ kx1 => by
    subst ed
    obtain ⟨v, rfl, rx⟩ := dnl1 rs
    have fin : ∀ J ok, ItOk X.K H1 J (enumD xs) ok → q (enumD xs) ok M1 → R J H' := fun J ok z w => k J _ ok H1 H' M1 e1 S1 z w
    cases rx with
    | lst hh r =>
      cases ex
      exact ⟨_, _, rfl, .inl ⟨SqL.of (S1.ex _ _ hh), fin _ _ (ite_ok (d := .lst xs) fun H0' H M e S _ => ⟨_, SqL.of (S.ex _ _ (e _ _ hh)), r.mono e⟩) w⟩⟩
    | lsf hh r =>
      cases ex
      exact ⟨_, _, rfl, .inl ⟨S1.ex.sqL hh, fin _ _ (ite_ok (d := .lsf xs) fun H0' H M e S _ => ⟨_, (e.trans S.ex).sqL hh, r.mono e⟩) w⟩⟩
    | tup hh r =>
      cases ex
      exact ⟨_, _, rfl, .inr ⟨S1.ex.sqT hh, fin _ _ (iteT_ok hh r _) w⟩⟩
    | cel c =>
      obtain ⟨_, vs, e2, r⟩ := S1.cell c xs (celL_eq ex)
      exact ⟨_, vs, rfl, .inl ⟨SqL.of e2, fin _ _ (ite_ok (d := .cel c) fun H0' H M e S ok => by
        obtain ⟨_, ws, e3, r3⟩ := S.cell c xs (celL_eq ok)
        exact ⟨ws, SqL.of e3, r3⟩) w⟩⟩
    | _ => cases ex
/-- zip of two tuples -/
def zipD (xs ys : List D) : List D := xs.zipWith (fun x y => .tup [x, y]) ys
theorem itzT_ok {K : PySem.W.Frag} {H0 : Hp} {a b : Addr} {xs ys : List D} {vs us : List V} (h : SqT K H0 a vs) (r : DnL K H0 vs xs) (h' : SqT K H0 b us) (r' : DnL K H0 us ys) (ok : Mem → Prop) : ItOk K H0 (ItzT K a b) (zipD xs ys) ok where
  go := fun H0' H M i y e S _ hi => by
    unfold zipD at hi
    rw [List.getElem?_zipWith] at hi
    cases hx : xs[i]? with
    | none => rw [hx] at hi; simp at hi
    | some x =>
      cases hy : ys[i]? with
      | none => rw [hx, hy] at hi; simp at hi
      | some z =>
        rw [hx, hy] at hi
        simp at hi
        subst hi
        obtain ⟨v, hv, rv⟩ := r.get hx
        obtain ⟨u, hu, ru⟩ := r'.get hy
        have hs : SqT K H a vs := (e.trans S.ex).sqT h
        have hs' : SqT K H b us := (e.trans S.ex).sqT h'
        exact ⟨⟨vs, us, v, u, hs, hs', hv, hu⟩, fun z H' ⟨T, p, q, e1, hT, e2, e3, e4⟩ => by
          subst e1 e2
          have a1 := e3 vs hs
          rw [hv] at a1
          cases a1
          have a2 := e4 us hs'
          rw [hu] at a2
          cases a2
          exact mk_pair S hT (rv.mono e) (ru.mono e)⟩
  stop := fun H0' H M i e S _ hi => ⟨vs, us, (e.trans S.ex).sqT h, (e.trans S.ex).sqT h', by
    unfold zipD at hi
    rw [List.length_zipWith] at hi
    rw [r.length, r'.length]
    omega⟩
theorem itzL_ok {K : PySem.W.Frag} {H0 : Hp} {a b : Addr} {d d' : D} {xs ys : List D} (hl : ∀ H0' H M, Ext H0 H0' → SD K H0' H M → lsqOf M d = some xs → ∃ vs, SqL K H a vs ∧ DnL K H0' vs xs) (hl' : ∀ H0' H M, Ext H0 H0' → SD K H0' H M → lsqOf M d' = some ys → ∃ vs, SqL K H b vs ∧ DnL K H0' vs ys) :
    ItOk K H0 (Itz K a b) (zipD xs ys) (fun M => lsqOf M d = some xs ∧ lsqOf M d' = some ys) where
  go := fun H0' H M i y e S ok hi => by
    unfold zipD at hi
    rw [List.getElem?_zipWith] at hi
    obtain ⟨vs, hs, r⟩ := hl H0' H M e S ok.1
    obtain ⟨us, hs', r'⟩ := hl' H0' H M e S ok.2
    cases hx : xs[i]? with
    | none => rw [hx] at hi; simp at hi
    | some x =>
      cases hy : ys[i]? with
      | none => rw [hx, hy] at hi; simp at hi
      | some z =>
        rw [hx, hy] at hi
        simp at hi
        subst hi
        obtain ⟨v, hv, rv⟩ := r.get hx
        obtain ⟨u, hu, ru⟩ := r'.get hy
        exact ⟨⟨vs, us, v, u, hs, hs', hv, hu⟩, fun z H' ⟨T, p, q, e1, hT, e2, e3, e4⟩ => by
          subst e1 e2
          have a1 := e3 vs hs
          rw [hv] at a1
          cases a1
          have a2 := e4 us hs'
          rw [hu] at a2
          cases a2
          exact mk_pair S hT rv ru⟩
  stop := fun H0' H M i e S ok hi => by
    obtain ⟨vs, hs, r⟩ := hl H0' H M e S ok.1
    obtain ⟨us, hs', r'⟩ := hl' H0' H M e S ok.2
    refine ⟨vs, us, hs, hs', ?_⟩
    unfold zipD at hi
    rw [List.length_zipWith] at hi
    rw [r.length, r'.length]
    omega
theorem lsq_at {K : PySem.W.Frag} {H0 : Hp} {v : V} {d : D} {a : Addr} {xs : List D} (h : Dn K H0 v d) (ev : v = .ref a) : ∀ H0' H M, Ext H0 H0' → SD K H0' H M → lsqOf M d = some xs → ∃ vs, SqL K H a vs ∧ DnL K H0' vs xs := fun H0' H M e S q => by
  obtain ⟨b, vs, e1, hs, r⟩ := S.lsq (h.mono e) q
  rw [ev] at e1
  cases e1
  exact ⟨vs, hs, r⟩
@[reducible] def dZip (da : DA) : DI := fun env M q E => da env M (fun ds M1 => ∃ d d' xs ys, ds = [d, d'] ∧ ((d = .tup xs ∧ d' = .tup ys ∧ q (zipD xs ys) (fun _ => True) M1) ∨ (lsqOf M1 d = some xs ∧ lsqOf M1 d' = some ys ∧ q (zipD xs ys) (fun M' => lsqOf M' d = some xs ∧ lsqOf M' d' = some ys) M1))) E
theorem id_zip {e e2 : Expr} {da : DA} {p pos tpos : Pos} {elts : List Expr} {kk : Nat} (hg : Gl X "zip") (hm : X.mg "zip" = none) (ha : AD X W [e, e2] da)
    (hs : starEach [e, e2] X.env = (false, eval e X.env) :: starEach [e2] X.env := by rfl) (hpl : (backTo pos (starEach [e2] X.env)).any (·.1) = false := by rfl) : ID X W (.Tuple elts kk tpos) (.Call (.Name "zip" p) [e, e2] [] pos) (dZip da) :=
  piImp (pi_zipA hg hm ha hs hpl) fun σ H R ⟨env, M, q, E, H0, so, S, h, k, kx⟩ => goA so S h kx fun vs ds H1 H' M1 e1 so1 S1 rs ⟨d, d', xs, ys, ed, w⟩ kx1 => by
    subst ed
    obtain ⟨v, u, rfl, rv, ru⟩ := dnl2 rs
    rcases w with ⟨rfl, rfl, w⟩ | ⟨w1, w2, w⟩
    · cases rv with
      | tup hh r => cases ru with
        | tup hh' r' => exact ⟨_, _, _, _, rfl, .inr ⟨S1.ex.sqT hh, S1.ex.sqT hh', k _ _ _ H1 H' M1 e1 S1 (itzT_ok hh r hh' r' _) w⟩⟩
    · obtain ⟨a, us, ea, hq, r⟩ := S1.lsq rv w1
      obtain ⟨b, us', eb, hq', r'⟩ := S1.lsq ru w2
      subst ea eb
      exact ⟨a, b, us, us', rfl, .inl ⟨hq, hq', k _ _ _ H1 H' M1 e1 S1 (itzL_ok (d := d) (d' := d') (lsq_at rv rfl) (lsq_at ru rfl)) w⟩⟩
end
end DL
set_option maxRecDepth 100000
set_option maxHeartbeats 4000000
namespace DL
open PySem PySem.Spec PyProof.Rows L2
def tyT : D → Option String
  | .non => some "NoneType"
  | .bl _ => some "bool"
  | .int _ => some "int"
  | .str _ => some "str"
  | .lst _ => some "list"
  | .lsf _ => some "list"
  | .tup _ => some "tuple"
  | .dic _ _ => some "dict"
  | _ => none
def tyD (M : Mem) : D → Option String
  | .cel c => match M c with
    | some (.ls _) => some "list"
    | some (.dc _) => some "dict"
    | _ => none
  | d => tyT d
theorem SD.tyX {K : PySem.W.Frag} {H0 H : Hp} {M : Mem} (S : SD K H0 H M) {v : V} {d : D} {t : String} (h : Dn K H0 v d) (e : tyD M d = some t) : TyX K H v (.type t) := by
  have rd : ∀ {a : Addr} {xs : List V}, Rd H a (.lst xs) → TyX K H (.ref a) (.type "list") := fun z => z.elim (fun z => .base (.lst z)) fun ⟨o, z⟩ => .base (.frz z)
  have rt : ∀ {a : Addr} {xs : List V}, Rd H a (.tup xs) → TyX K H (.ref a) (.type "tuple") := fun z => z.elim (fun z => .base (.tup z)) fun ⟨o, z⟩ => .fTuple z
  cases h with
  | non => cases e; exact .base .non
  | bl b => cases e; exact .base (.bl b)
  | int b => cases e; exact .base (.int b)
  | str b => cases e; exact .base (.str b)
  | ty n => cases e
  | cel c =>
    have e' : (match M c with | some (.ls _) => some "list" | some (.dc _) => some "dict" | _ => none) = some t := e
    split at e'
    · rename_i xs hm; cases e'
      obtain ⟨_, vs, q, _⟩ := S.any c _ hm
      exact .base (.lst q)
    · rename_i xs hm; cases e'
      obtain ⟨_, vs, q, _⟩ := S.any c _ hm
      exact .base (.dK q)
    · cases e'
  | lst q r => cases e; exact .base (.lst (S.ex _ _ q))
  | lsf q r =>
    cases e
    rcases S.ex.sqL q with z | ⟨o, _, _, z, c, _⟩
    · exact rd z
    · exact .kList z c
  | tup q r =>
    cases e
    rcases S.ex.sqT q with z | ⟨o, _, _, z, c, _⟩
    · exact rt z
    · exact .kTuple z c
  | dic q r => cases e; exact .base (.dK (S.ex _ _ q))
  | ins q r => cases e
def isT (a b : String) : Option Bool := match b with
  | "int" => (match a with | "int" => some true | "bool" => some true | "NoneType" => some false | "str" => some false | "list" => some false | "tuple" => some false | "dict" => some false | _ => none)
  | "bool" => (match a with | "int" => some false | "bool" => some true | "NoneType" => some false | "str" => some false | "list" => some false | "tuple" => some false | "dict" => some false | _ => none)
  | "str" => (match a with | "int" => some false | "bool" => some false | "NoneType" => some false | "str" => some true | "list" => some false | "tuple" => some false | "dict" => some false | _ => none)
  | "tuple" => (match a with | "int" => some false | "bool" => some false | "NoneType" => some false | "str" => some false | "list" => some false | "tuple" => some true | "dict" => some false | _ => none)
  | _ => none
theorem isT_ok {a b : String} {r : Bool} (h : isT a b = some r) : kitB a b = some r := by
  unfold isT at h
  split at h <;> (try cases h) <;> (split at h <;> (try cases h) <;> decide +kernel)
@[reducible] def rdIsi (n : String) : RD1 := fun d M q => ∃ t b, tyD M d = some t ∧ isT t n = some b ∧ q (.bl b) M
section
variable {X : Cx} {W : WX}
@[reducible] def dIsi (n : String) (de : DE) : DE := fun env M q E => de env M (fun d M1 => rdIsi n d M1 q) E
theorem pd_isi {e : Expr} {y : Str} {n : String} {p p' pos : Pos} {de : DE} (he : PD X W e de) (hm : X.mg "isinstance" = none) (hmy : X.mg y = none) (hv : bootBuiltins y = some (.type n)) (hg : Gl X "isinstance" := by rfl) (hgy : Gl X y := by rfl) (hny : y ≠ "__name__" := by decide) (hdy : (y == ("__debug__" : Str)) = false := by decide)
    (hs : starEach [e, .Name y p'] X.env = (false, eval e X.env) :: starEach [.Name y p'] X.env := by rfl) (hpl : (backTo pos (starEach [.Name y p'] X.env)).any (·.1) = false := by rfl) (hv2 : bootBuiltins "isinstance" = some (.builtin "isinstance") := by decide +kernel) : PD X W (.Call (.Name "isinstance" p) [e, .Name y p'] [] pos) (dIsi n de) := by
  have h2 : AD X W [e, .Name y p'] (dCons de (dCons (dC (.ty n)) dNil)) := ad_cons he (ad_cons (pd_of_tC (pe_bltn hgy hmy hv (show RelV (.ty n) (.type n) from rfl) hny hdy) fun _ => .ty n) ad_nil (by rfl)) hs
  refine peImp (pe_callB (x := "isinstance") call_isi hg hm hv2 h2 (by decide) (by decide) hs hpl) fun σ H Q ⟨env, M, q, E, H0, so, S, h, k, kx⟩ => ?_
  refine ⟨env, M, fun ds M1 => (match ds with | [d, .ty m] => m = n ∧ rdIsi n d M1 q | _ => False), E, H0, so, S, ?_, ?_, kx⟩
  · show de env M (fun d M1 => n = n ∧ rdIsi n d M1 q) E
    rw [show (fun d M1 => n = n ∧ rdIsi n d M1 q) = (fun d M1 => rdIsi n d M1 q) from by funext d M1; exact propext ⟨fun h => h.2, fun h => ⟨rfl, h⟩⟩]
    exact h
  · intro vs ds H1 H' M1 e1 S1 rs w
    have w' : ∃ d, ds = [d, .ty n] ∧ rdIsi n d M1 q := by
      revert w
      split
      · rintro ⟨rfl, w⟩; exact ⟨_, rfl, w⟩
      · exact fun z => z.elim
    clear w
    obtain ⟨d, ed, t, b, et, eb, w⟩ := w'
    subst ed
    obtain ⟨v, u, rfl, rv, ru⟩ := dnl2 rs
    cases ru
    exact ⟨v, .ty n, .type t, .type n, b, rfl, .ty n, S1.tyX rv et, kit_ty (isT_ok eb), k _ _ H1 H' M1 e1 S1 (.bl b) w⟩
end
def IsPairS (h : Heap) (v : Value) (x : Int) (z : PySem.Str) : Prop := ∃ (a : Addr) (o : Obj) (t u : Tok) (n : Nat), v = .ref a ∧ h.get? a = some o ∧ o.cls = .type "tuple" ∧ o.data = .seq #[.int x t, .str z u] n
theorem IsPairS.keeps {h h' : Heap} {v : Value} {x : Int} {z : PySem.Str} (p : IsPairS h v x z) (k : ∀ b o, h.get? b = some o → o.cls = .type "tuple" → h'.get? b = some o) : IsPairS h' v x z := by
  obtain ⟨a, o, t, u, n, e, ho, hc, hd⟩ := p
  exact ⟨a, o, t, u, n, e, k a o ho hc, hc, hd⟩
section
open SrtO Srt
variable {prog : Program} {w : World} {A : Around} {E : Value → Shared → Prop} {s : Shared}
abbrev ltI (k : Value → Int) (v u : Value) : Bool := decide (k v < k u)
theorem swo_int (k : Value → Int) : Swo (ltI k) := ⟨fun x y h => by
  have := of_decide_eq_true h
  exact decide_eq_false (by omega), fun x y z h1 h2 => by
  have a := of_decide_eq_false h1
  have b := of_decide_eq_false h2
  exact decide_eq_false (by omega)⟩
theorem pairS_cmp {vs : List Value} {k : Value → Int} {z : Value → PySem.Str} (hp : ∀ v ∈ vs, IsPairS s.heap v (k v) (z v)) (hi : ∀ v ∈ vs, ∀ u ∈ vs, k v = k u → z v = z u) : Cmp prog w A s (tuples' true) (fun p => p.1 ∈ vs) (lt2 (ltI k)) := by
  intro p q hm hm'
  have h1 := hp _ hm
  have h2 := hp _ hm'
  have h3 := hi _ hm _ hm'
  show wpAny (model prog w) A (keyLt' (tuples' true) p.1 q.1) (fun r s' => s' = s ∧ r = decide (k p.1 < k q.1)) (fun _ _ => False) s
  generalize k p.1 = x at h1 h3 ⊢
  generalize z p.1 = y at h1 h3 ⊢
  generalize k q.1 = x' at h2 h3 ⊢
  generalize z q.1 = y' at h2 h3 ⊢
  obtain ⟨a, o, t, u, n, e, ho, hc, hd⟩ := h1
  obtain ⟨a', o', t', u', n', e', ho', hc', hd'⟩ := h2
  rw [e, e']
  refine PySem.W.kat_lt ho hd ho' hd' ?_
  show PySem.W.KatLex prog w A true (decide (2 < 2)) _ [(.int x t, .int x' t'), (.str y u, .str y' u')] 0 s
  refine PySem.W.kat_cons (SeqAt.EqAt.int_int x t x' t' prog w _ _ ?_)
  refine PySem.W.kat_go (fun e1 => ?_) (fun e1 => ?_)
  · have ex : x = x' := by simpa using e1
    have ey := h3 ex
    subst ex ey
    refine PySem.W.kat_yes (PySem.W.kat_cons (SeqAt.EqAt.str_str y u y u' prog w _ _ ?_))
    refine PySem.W.kat_go (fun e2 => ?_) (fun e2 => ?_)
    · exact PySem.W.kat_yes (PySem.W.kat_nil ⟨rfl, (decide_eq_false (Int.lt_irrefl _)).symm⟩)
    · exact absurd e2 (by simp)
  · exact PySem.W.kat_no (oneLt_int ⟨rfl, rfl⟩)
theorem firstsS {h : Heap} : ∀ {vs : List Value}, (∀ v ∈ vs, ∃ x y, IsPairS h v x y) → ∃ fs : List Value, PySem.W.KatTups h vs fs ∧ fs.length = vs.length ∧ ∀ f ∈ fs, ∃ x t, f = Value.int x t
  | [], _ => ⟨[], PySem.W.KatTups.nil, rfl, fun _ hm => by simp at hm⟩
  | v :: vs, hp => by
    obtain ⟨fs, h1, h2, h3⟩ := firstsS (vs := vs) fun v' hm => hp v' (List.mem_cons_of_mem _ hm)
    obtain ⟨x, y, a, o, t, u, n, e, ho, hc, hd⟩ := hp v (List.mem_cons_self ..)
    subst e
    refine ⟨.int x t :: fs, PySem.W.KatTups.cons ho hc hd rfl h1, by rw [List.length_cons, List.length_cons, h2], fun f hm => ?_⟩
    rcases List.mem_cons.mp hm with rfl | hm
    · exact ⟨x, t, rfl⟩
    · exact h3 f hm
theorem pairS_sortable {a : Addr} {vs : List Value} {k : Value → Int} {z : Value → PySem.Str} (h0 : 0 < vs.length) (hp : ∀ v ∈ vs, IsPairS s.heap v (k v) (z v)) (hi : ∀ v ∈ vs, ∀ u ∈ vs, k v = k u → z v = z u) (ha : ∀ o, s.heap.get? a = some o → o.cls ≠ .type "tuple") : SortableO prog w A s a vs (ltI k) := by
  intro h' keep
  have hp' : ∀ v ∈ vs, IsPairS h' v (k v) (z v) := fun v hm => (hp v hm).keeps fun b o e c => keep b o (fun z => by subst z; exact ha o e c) e
  obtain ⟨fs, h1, h2, h3⟩ := firstsS fun v hm => ⟨_, _, hp' v hm⟩
  refine ⟨tuples' true, fun Q E hq => ?_, pairS_cmp hp' hi⟩
  refine PySem.W.kat_kind (T := .type "int") h1 (by omega) (fun f hm => ?_) (by rfl) ?_
  · obtain ⟨x, t, rfl⟩ := h3 f hm
    exact PySem.W.Looks.now
  · have e : (Value.type "int" != Value.type "tuple") = true := by first | decide +kernel | rfl | decide
    rw [e]
    exact hq
theorem sorted_pairS {l : Addr} {vs : List Value} {k : Value → Int} {z : Value → PySem.Str} {Q : Value → Shared → Prop} (hl : s.heap.IsList l vs.toArray) (hz : vs.length ≤ sizeLine) (hp : ∀ v ∈ vs, IsPairS s.heap v (k v) (z v)) (hi : ∀ v ∈ vs, ∀ u ∈ vs, k v = k u → z v = z u)
    (h : ∀ (h' : Heap) (d : Addr) (out : List Value), Srtd (ltI k) out → Stb (ltI k) out vs → (∀ b o, s.heap.get? b = some o → h'.get? b = some o) → s.heap.objs.size ≤ d → (∃ n, h'.get? d = some (seqObj "list" out.toArray n)) → Q (.ref d) { s with heap := h' }) :
    wpAny (model prog w) A (call (.builtin "sorted") [.ref l]) Q E s := by
  refine sorted_ord (swo_int k) hl hz (fun h2 h₁ a ha kk => ?_) fun out hs hb => ?_
  · refine pairS_sortable (s := { s with heap := h₁ }) (by omega) (fun v hm => (hp v hm).keeps fun b o e _ => (kk b o e).2) hi fun o e => ?_
    have e' : some o = some (seqObj "list" vs.toArray 0) := e.symm.trans ha
    cases e'
    intro c
    exact absurd (Value.type.inj c) (by decide)
  · exact h _ _ out hs hb (fun b o e => sortedAll_old e) (Nat.le_succ _) (sortedAll_at s.heap vs out.toArray)
end
/-- what a pair at v says -/
def pairAt (K : PySem.W.Frag) (H : Hp) (v : V) (p : Int × PySem.Str) : Prop := ∃ t, v = .ref t ∧ SqT K H t [.int p.1, .str p.2]
/-- sorted(xs) over the layer: refs to pairs -/
def rSortPS (K : PySem.W.Frag) : List V → Hp → VK → Prop := fun vs H Q => ∃ (a : Addr) (xs : List V) (ps : List (Int × PySem.Str)), vs = [V.ref a] ∧ SqL K H a xs ∧ (∀ x ∈ xs, ∃ p, p ∈ ps ∧ pairAt K H x p) ∧ (∀ p ∈ ps, ∀ q ∈ ps, p.1 = q.1 → p.2 = q.2) ∧
  ∀ (ys : List V) (p : Addr), ys.Pairwise (fun x y => ∀ p q : Int × PySem.Str, pairAt K H x p → pairAt K H y q → p.1 ≤ q.1) → ys.Perm xs → H p = none → Q (.ref p) (upd H p (.lst ys))
section
variable {X : Cx} {W : WX}
open Classical in
theorem cr_sortPS : CallR X (.builtin "sorted") (rSortPS X.K) := by
  intro pins s σ H vs us Q I r h
  obtain ⟨a, xs, ps, rfl, hs, hx, hi, q⟩ := h
  let g : V → Int × PySem.Str := fun v => if e : ∃ p, pairAt X.K H v p then e.choose else (0, default)
  have gok : ∀ v p, pairAt X.K H v p → g v = p := fun v p hp => by
    have e : ∃ p, pairAt X.K H v p := ⟨p, hp⟩
    have e1 : g v = e.choose := dif_pos e
    obtain ⟨t, rfl, q1⟩ := hp
    obtain ⟨t', e2, q2⟩ := e.choose_spec
    cases e2
    have z := I.tuple_inj q1 q2
    rw [e1]
    simp only [List.cons.injEq, V.int.injEq, V.str.injEq, and_true] at z
    exact Prod.ext z.1.symm z.2.symm
  obtain ⟨its, rv, hl, hz⟩ := I.list hs
  obtain ⟨u, rfl, ru⟩ := vals1 r
  obtain rfl : u = Value.ref a := ru
  obtain ⟨e1, e2⟩ := refs_back rv fun x m => by
    obtain ⟨p, _, t, e, _⟩ := hx x m
    exact ⟨t, e⟩
  have mem : ∀ v ∈ its, backV v ∈ xs := fun v hv => by rw [e1]; exact List.mem_map.mpr ⟨v, hv, rfl⟩
  have gat : ∀ v ∈ xs, pairAt X.K H v (g v) := fun v hv => by
    obtain ⟨p, _, hp⟩ := hx v hv
    rw [gok v p hp]; exact hp
  have gin : ∀ v ∈ xs, g v ∈ ps := fun v hv => by
    obtain ⟨p, hm, hp⟩ := hx v hv
    rw [gok v p hp]; exact hm
  refine sorted_pairS (k := fun u => (g (backV u)).1) (z := fun u => (g (backV u)).2) hl.isList (by rw [← rv.length]; exact hz) (fun v hv => ?_) (fun v hv u hu => hi _ (gin _ (mem v hv)) _ (gin _ (mem u hu))) fun h' d out h1 h2 kp hd hn => ?_
  · obtain ⟨t, rfl⟩ := e2 v hv
    obtain ⟨t', et, ht⟩ := gat _ (mem _ hv)
    cases et
    obtain ⟨its2, rv2, ⟨o, ho, hc, n, hdt⟩, _⟩ := I.tuple ht
    obtain ⟨u1, u2, rfl, r1, r2⟩ := vals2 rv2
    obtain ⟨t1, rfl⟩ := r1
    obtain ⟨t2, rfl⟩ := r2
    exact ⟨t, o, t1, t2, n, rfl, ho, hc, hdt⟩
  · have h3 : ∀ u ∈ out, ∃ a, u = Value.ref a := fun u hu => e2 u (h2.perm.mem_iff.mp hu)
    obtain ⟨n, hn⟩ := hn
    have hb : (out.map backV).Perm xs := by rw [e1]; exact h2.perm.map backV
    refine ⟨.ref d, upd H d (.lst (out.map backV)), I.laid (t' := s.toks) kp hd ⟨?_, out, n, vals_back h3, hn⟩, rfl, q _ d ?_ hb (I.hok.fresh hd)⟩
    · rw [hb.length_eq]
      exact hz
    · rw [List.pairwise_map]
      exact h1.imp fun h p q hp hq => by
        rw [← gok _ p hp, ← gok _ q hq]
        exact Int.not_lt.mp (of_decide_eq_false h)
def pairsD : List D → Option (List (Int × PySem.Str))
  | [] => some []
  | .tup [.int i, .str z] :: ds => (pairsD ds).map ((i, z) :: ·)
  | _ => none
def pairD (p : Int × PySem.Str) : D := .tup [.int p.1, .str p.2]
theorem pairsD_eq : ∀ {ds : List D} {ps : List (Int × PySem.Str)}, pairsD ds = some ps → ds = ps.map pairD
  | [], ps, h => by cases h; rfl
  | d :: ds, ps, h => by
    unfold pairsD at h
    split at h
    · rename_i e; cases e
    · rename_i i z ds' e
      cases e
      obtain ⟨qs, e1, rfl⟩ := omap h
      rw [List.map_cons, ← pairsD_eq e1]
      rfl
    · cases h
theorem pairsD_map : ∀ ps : List (Int × PySem.Str), pairsD (ps.map pairD) = some ps
  | [] => rfl
  | p :: ps => by
    show (pairsD (ps.map pairD)).map (p :: ·) = _
    rw [pairsD_map ps]
    rfl
theorem DnL.perm {K : PySem.W.Frag} {H : Hp} {vs us : List V} (p : us.Perm vs) : ∀ {ds : List D}, DnL K H vs ds → ∃ es, es.Perm ds ∧ DnL K H us es := by
  induction p with
  | nil => intro ds h; exact ⟨ds, .refl _, h⟩
  | cons x _ ih =>
    intro ds h
    cases h with
    | cons a r =>
      obtain ⟨es, p, z⟩ := ih r
      exact ⟨_ :: es, p.cons _, .cons a z⟩
  | swap x y l =>
    intro ds h
    cases h with
    | cons a r => cases r with
      | cons b r => exact ⟨_, List.Perm.swap _ _ _, .cons b (.cons a r)⟩
  | trans _ _ ih1 ih2 =>
    intro ds h
    obtain ⟨es, p1, z1⟩ := ih2 h
    obtain ⟨fs, p2, z2⟩ := ih1 z1
    exact ⟨fs, p2.trans p1, z2⟩
theorem dn_pair {K : PySem.W.Frag} {H : Hp} {v : V} {p : Int × PySem.Str} (h : Dn K H v (pairD p)) : pairAt K H v p := by
  cases h with
  | tup q r =>
    obtain ⟨a, b, e, ra, rb⟩ := dnl2 r
    subst e
    rw [ra.inv_int, rb.inv_str] at q
    exact ⟨_, rfl, q⟩
def rdSortP : RDL := fun ds M q => ∃ (d : D) (xs : List D) (ps : List (Int × PySem.Str)), ds = [d] ∧ lsqOf M d = some xs ∧ pairsD xs = some ps ∧ (∀ a ∈ ps, ∀ b ∈ ps, a.1 = b.1 → a.2 = b.2) ∧ ∀ ps' : List (Int × PySem.Str), ps'.Perm ps → ps'.Pairwise (fun a b => a.1 ≤ b.1) → q (.lst (ps'.map pairD)) M
theorem map_pairs {ds : List D} {ps : List (Int × PySem.Str)} (h : ds.Perm (ps.map pairD)) : ∃ ps' : List (Int × PySem.Str), ps'.Perm ps ∧ ds = ps'.map pairD := by
  have hh : ∃ l, ds = List.map pairD l := by
    have inj : ∀ d ∈ ds, ∃ p, d = pairD p := fun d hd => by
      obtain ⟨p, _, e⟩ := List.mem_map.mp (h.mem_iff.mp hd)
      exact ⟨p, e.symm⟩
    clear h
    induction ds with
    | nil => exact ⟨[], rfl⟩
    | cons d ds ih =>
      obtain ⟨l, e⟩ := ih fun x hx => inj x (List.mem_cons_of_mem _ hx)
      obtain ⟨p, e2⟩ := inj d List.mem_cons_self
      exact ⟨p :: l, by rw [e2, e]; rfl⟩
  obtain ⟨l, e⟩ := hh
  refine ⟨l, ?_, e⟩
  rw [e] at h
  let f : D → Int × PySem.Str := fun d => match d with | .tup [.int i, .str z] => (i, z) | _ => ((0 : Int), (default : PySem.Str))
  have hm := h.map f
  rw [List.map_map, List.map_map] at hm
  have idd : (f ∘ pairD) = id := funext fun q => rfl
  rw [idd, List.map_id, List.map_id] at hm
  exact hm
theorem dn_pw {K : PySem.W.Frag} {H : Hp} {R : V → V → Prop} {T : Int × PySem.Str → Int × PySem.Str → Prop} (hT : ∀ x y p q, Dn K H x (pairD p) → Dn K H y (pairD q) → R x y → T p q) : ∀ {vs : List V} {ps : List (Int × PySem.Str)}, DnL K H vs (ps.map pairD) → vs.Pairwise R → ps.Pairwise T
  | _, [], _, _ => .nil
  | _, p :: ps, .cons a r, .cons h1 h2 => by
    refine .cons (fun q hq => ?_) (dn_pw hT r h2)
    obtain ⟨n, hn⟩ := List.getElem?_of_mem hq
    obtain ⟨v, hv, rv⟩ := r.get (i := n) (d := pairD q) (by rw [List.getElem?_map, hn]; rfl)
    exact hT _ _ _ _ a rv (h1 _ (List.mem_of_getElem? hv))
theorem cd_sortP : CallD X (.builtin "sorted") rdSortP := ⟨_, cr_sortPS, fun H0 H M xs ds q Q S r w k => by
  obtain ⟨d, ys, ps, rfl, e, ep, hi, w⟩ := w
  obtain ⟨v, rfl, rv⟩ := dnl1 r
  obtain ⟨a, vs, rfl, hs, rs⟩ := S.lsq rv e
  have eq := pairsD_eq ep
  subst eq
  have ex : ∀ x ∈ vs, ∃ p ∈ ps, Dn X.K H0 x (pairD p) := fun x hx => by
    obtain ⟨n, hn⟩ := List.getElem?_of_mem hx
    obtain ⟨dd, h1, h2⟩ := rs.getV hn
    rw [List.getElem?_map] at h1
    obtain ⟨p, hp, rfl⟩ := omap h1
    exact ⟨p, List.mem_of_getElem? hp, h2⟩
  refine ⟨a, vs, ps, rfl, hs, fun x hx => ?_, hi, fun us b hs2 hp hb => ?_⟩
  · obtain ⟨p, m, z⟩ := ex x hx
    exact ⟨p, m, dn_pair (z.mono S.ex)⟩
  · obtain ⟨es, pe, re⟩ := rs.perm hp
    obtain ⟨ps', pp, rfl⟩ := map_pairs pe
    refine k.newL S re (w ps' pp (dn_pw (fun x y p q h1 h2 z => z p q (dn_pair (h1.mono S.ex)) (dn_pair (h2.mono S.ex))) re hs2)) b hb⟩
def kvsD : List D → Option (List (Key × D))
  | [] => some []
  | .tup [k, v] :: ds => match keyD k, kvsD ds with
    | some k, some r => some ((k, v) :: r)
    | _, _ => none
  | _ => none
def mergeD (acc : List (Key × D)) : List (Key × D) → List (Key × D)
  | [] => acc
  | kv :: r => mergeD (setK acc kv.1 kv.2) r
theorem KvL.merge {K : PySem.W.Frag} {H : Hp} : ∀ {r2 : List (Key × V)} {s2 : List (Key × D)}, KvL K H r2 s2 → ∀ {r : List (Key × V)} {s : List (Key × D)}, KvL K H r s → KvL K H (mergeK r r2) (mergeD s s2)
  | _, _, .nil, _, _, a => a
  | _, _, .cons (k := k) (v := v) (d := d) (r := r2) (s := s2) h b, r, s, a => by
    show KvL K H (mergeK (putK r k v) r2) (mergeD (setK s k d) s2)
    exact KvL.merge b (a.put h)
theorem kvs_dn {K : PySem.W.Frag} {H0 H : Hp} (e : Ext H0 H) : ∀ {xs : List D} {vs : List V} {kvs : List (Key × D)}, DnL K H0 vs xs → kvsD xs = some kvs → ∃ (ps : List Addr) (rvs : List (Key × V)), vs = ps.map V.ref ∧ Paired (fun p kv => SqT K H p [kV kv.1, kv.2]) ps rvs ∧ KvL K H0 rvs kvs
  | [], _, _, .nil, h => by cases h; exact ⟨[], [], rfl, .nil, .nil⟩
  | d :: xs, _, _, .cons a r, h => by
    unfold kvsD at h
    split at h
    · rename_i z; cases z
    · rename_i k v ds z
      cases z
      split at h
      · rename_i k' r' e1 e2
        cases h
        obtain ⟨ps, rvs, rfl, pp, kk⟩ := kvs_dn e r e2
        cases a with
        | tup q s =>
          obtain ⟨x, y, ee, rx, ry⟩ := dnl2 s
          subst ee
          have := keyD_dn rx e1
          subst this
          exact ⟨_ :: ps, (k', y) :: rvs, rfl, .cons (e.sqT q) pp, .cons ry kk⟩
      · cases h
    · cases h
def rdDictC : RDL := fun ds M q => ∃ d xs kvs, ds = [d] ∧ lsqOf M d = some xs ∧ kvsD xs = some kvs ∧ ∀ a, M a = none → q (.cel a) (mset M a (.dc (mergeD [] kvs)))
theorem cd_dictC (hc : X.calm = true) : CallD X (.type "dict") rdDictC := ⟨_, call_dictP hc, fun H0 H M xs ds q Q S r w k => by
  obtain ⟨d, ys, kvs, rfl, e, ek, w⟩ := w
  obtain ⟨v, rfl, rv⟩ := dnl1 r
  obtain ⟨a, vs, rfl, hs, rs⟩ := S.lsq rv e
  obtain ⟨ps, rvs, rfl, pp, kk⟩ := kvs_dn S.ex rs ek
  refine ⟨a, ps, rvs, rfl, hs, pp, fun p hp => ?_⟩
  exact k _ _ H0 _ _ (Ext.refl _) (S.put (x := .dc (mergeD [] kvs)) (S.fresh hp).1 fun _ e => ⟨_, e, KvL.merge kk .nil⟩) (.cel p) (w p (S.fresh hp).2)⟩
def inW (ok : Mem → Prop) (g : GD) (t : DT) (de : DE) (env : EnvD) (c : Addr) (nx : Mem → Prop) : List D → Mem → Prop
  | [], M => ok M ∧ nx M
  | x :: r, M => ok M ∧ g x env M (fun env' M' => t env' M' (fun b M2 => if b = true then de env' M2 (fun y M3 => ∃ xs, M3 c = some (.ls xs) ∧ xs.length < sizeLine ∧ inW ok g t de env c nx r (mset M3 c (.ls (xs ++ [y])))) noX else inW ok g t de env c nx r M2) noX) (fun _ => noX)
def lc2W (ok : Mem → Prop) (g : GD) (t : DT) (di1 : DI) (g1 : GD) (t1 : DT) (de : DE) (vs1 : List Nat) (env : EnvD) (q : QD) (c : Addr) : List D → Mem → Prop
  | [], M => ok M ∧ ∃ xs, M c = some (.ls xs) ∧ q (.lst xs) (mdel M c)
  | x :: r, M => ok M ∧ g x env M (fun env' M' => t env' M' (fun b M2 => if b = true then di1 env' M2 (fun items1 ok1 M3 => inW ok1 g1 t1 de (wipeD env' vs1) c (fun M4 => lc2W ok g t di1 g1 t1 de vs1 env q c r M4) items1 M3) noX else lc2W ok g t di1 g1 t1 de vs1 env q c r M2) noX) (fun _ => noX)
@[reducible] def dLc2 (di : DI) (g : GD) (t : DT) (di1 : DI) (g1 : GD) (t1 : DT) (de : DE) (vs vs1 : List Nat) : DE := fun env M q E => di env M (fun items ok M1 => ∀ c, M1 c = none → lc2W ok g t di1 g1 t1 de vs1 (wipeD env vs) q c items (mset M1 c (.ls []))) E
theorem wipe2 {σ : L2.St} (vs : List Nat) : wipe (wipe σ vs) vs = wipe σ vs := by
  have z : ∀ (ws : List Nat), (∀ v ∈ ws, v ∈ vs) → wipe (wipe σ vs) ws = wipe σ vs := fun ws => by
    induction ws with
    | nil => intro _; rfl
    | cons v ws ih =>
      intro hv
      show (wipe (wipe σ vs) ws).set v none = wipe σ vs
      rw [ih fun u hu => hv u (List.mem_cons_of_mem _ hu)]
      exact wipe_idem (hv v List.mem_cons_self)
  exact z vs fun _ h => h
theorem lift_lc2 {K : PySem.W.Frag} {di di1 : DI} {g g1 : GD} {t t1 : DT} {de : DE} {vs vs1 : List Nat} : ∀ σ H Q, liftE K W (dLc2 di g t di1 g1 t1 de vs vs1) σ H Q → tLc2 (liftI K W di) (liftGw K g vs) (liftT K WF t) (liftI K WF di1) (liftGw K g1 vs1) (liftT K WF t1) (liftE K WF de) vs vs1 σ H Q := fun σ H Q ⟨env, M, q, E, H0, so, S, h, k, kx⟩ =>
  goI so S h kx fun J items ok H1 H' M1 e1 so1 S1 io w kx1 => by
    intro Dl hD
    have S1' := S1.newCell (vs := []) (xs := []) hD .nil
    have sw := slot_wipe so1 vs
    refine ⟨fun i m H2 => m = items.length - i ∧ i ≤ items.length ∧ ∃ M2 H3, Ext H1 H3 ∧ SD K H3 H2 M2 ∧ lc2W ok g t di1 g1 t1 de vs1 (wipeD env vs) q Dl (items.drop i) M2,
      ⟨_, rfl, Nat.zero_le _, _, H1, Ext.refl _, S1', w Dl (S1.fresh hD).2⟩, ?_⟩
    rintro i m H2 ⟨rfl, hi2, M2, H3, e3, S3, w3⟩
    by_cases hlt : i < items.length
    · have hx : items[i]? = some items[i] := List.getElem?_eq_getElem hlt
      rw [List.drop_eq_getElem_cons hlt] at w3
      obtain ⟨o3, w3⟩ := w3
      obtain ⟨g1', g2⟩ := io.go H3 H2 M2 i _ e3 S3 o3 hx
      refine .inr ⟨g1', fun H4 => ∃ M4 H5, Ext H1 H5 ∧ SD K H5 H4 M4 ∧ lc2W ok g t di1 g1 t1 de vs1 (wipeD env vs) q Dl (items.drop (i + 1)) M4, fun H4 z => ⟨items.length - (i + 1), by omega, rfl, hlt, z⟩, fun x H4 y => ?_⟩
      obtain ⟨H5, e5, S5, r5⟩ := g2 x H4 y
      refine ⟨_, _, M2, _, H5, r5, sw.mono (e3.trans e5), S5, w3, fun σ6 env6 H6 H6' M6 e6 so6 S6 w6 wz => ⟨?_, goT so6 S6 w6 kx0 fun b H7 H7' M7 e7 so7 S7 w7 _ => ?_⟩⟩
      · rw [wz]; exact wipe2 vs
      · have e17 : Ext H1 H7 := ((e3.trans e5).trans e6).trans e7
        cases b with
        | false => exact iteF ⟨M7, H7, e17, S7, w7⟩
        | true =>
          refine iteT ?_
          refine goI so7 S7 (show di1 env6 M7 _ noX from w7) kx0 fun J1 items1 ok1 H8 H8' M8 e8 so8 S8 io1 w8 _ => ?_
          have sw1 := slot_wipe so8 vs1
          refine ⟨fun j m H9 => m = items1.length - j ∧ j ≤ items1.length ∧ ∃ M9 H10, Ext H8 H10 ∧ SD K H10 H9 M9 ∧ inW ok1 g1 t1 de (wipeD env6 vs1) Dl (fun M4 => lc2W ok g t di1 g1 t1 de vs1 (wipeD env vs) q Dl (items.drop (i + 1)) M4) (items1.drop j) M9,
            ⟨_, rfl, Nat.zero_le _, _, H8, Ext.refl _, S8, w8⟩, ?_⟩
          rintro j m H9 ⟨rfl, hj2, M9, H10, e10, S10, w10⟩
          by_cases hlj : j < items1.length
          · have hx1 : items1[j]? = some items1[j] := List.getElem?_eq_getElem hlj
            rw [List.drop_eq_getElem_cons hlj] at w10
            obtain ⟨o10, w10⟩ := w10
            obtain ⟨k1, k2⟩ := io1.go H10 H9 M9 j _ e10 S10 o10 hx1
            refine .inr ⟨k1, fun H4 => ∃ M4 H5, Ext H8 H5 ∧ SD K H5 H4 M4 ∧ inW ok1 g1 t1 de (wipeD env6 vs1) Dl (fun M4 => lc2W ok g t di1 g1 t1 de vs1 (wipeD env vs) q Dl (items.drop (i + 1)) M4) (items1.drop (j + 1)) M4, fun H4 z => ⟨items1.length - (j + 1), by omega, rfl, hlj, z⟩, fun x1 H11 y1 => ?_⟩
            obtain ⟨H12, e12, S12, r12⟩ := k2 x1 H11 y1
            refine ⟨_, _, M9, _, H12, r12, sw1.mono (e10.trans e12), S12, w10, fun σ13 env13 H13 H13' M13 e13 so13 S13 w13 wz1 => ⟨?_, goT so13 S13 w13 kx0 fun b1 H14 H14' M14 e14 so14 S14 w14 _ => ?_⟩⟩
            · rw [wz1]; exact wipe2 vs1
            · have e814 : Ext H8 H14 := ((e10.trans e12).trans e13).trans e14
              cases b1 with
              | true =>
                refine iteT ?_
                refine goE so14 S14 (show de env13 M14 _ noX from w14) kx0 fun v d H15 H15' M15 e15 so15 S15 r15 ⟨xs, ex, hl, w15⟩ _ => ?_
                obtain ⟨n0, us, e16, r16⟩ := S15.cell Dl xs ex
                exact ⟨us, e16, by rw [r16.length]; exact hl, _, H15, e814.trans e15, S15.write ex (r16.app (.one r15)), w15⟩
              | false => exact iteF ⟨M14, H14, e814, S14, w14⟩
          · have hge : items1.length ≤ j := Nat.le_of_not_lt hlj
            rw [List.drop_eq_nil_of_le hge] at w10
            exact .inl ⟨io1.stop H10 H9 M9 j e10 S10 w10.1 hge, M9, H10, (e17.trans e8).trans e10, S10, w10.2⟩
    · have hge : items.length ≤ i := Nat.le_of_not_lt hlt
      rw [List.drop_eq_nil_of_le hge] at w3
      obtain ⟨o3, xs, ex, w3⟩ := w3
      refine .inl ⟨io.stop H3 H2 M2 i e3 S3 o3 hge, ?_⟩
      obtain ⟨us, _, n0, S4, r4⟩ := S3.freeze ex
      exact k _ _ _ H2 _ ((e1.trans e3).trans (Ext.add n0)) S4 r4 w3
theorem pd_lc2 {elt tg iter tg1 iter1 : Expr} {ifs ifs1 : List Expr} {scope : Scope} {own : List (Str × Nat)} {vs1 : List Nat} {pos : Pos} {di di1 : DI} {g g1 : GD} {t t1 : DT} {de : DE} (hc : X.calm = true) (hN : X.N.Nodup) (hi : ID X W tg iter di) (ok : BlkOk X.N X.env.scope scope own) (hv : ∀ i ∈ vs1, i ∈ own.map (·.2))
    (hg : ∀ (s : Shared) (H : Hp) (C : Addr) (cl : List (Str × Addr)) (fp : List Addr), TgW (X.blk s H scope (compEnvC scope cl C X.env) fp) tg g (own.map (·.2))) (ht : ∀ (s : Shared) (H : Hp) (C : Addr) (cl : List (Str × Addr)) (fp : List Addr), TsD (X.blk s H scope (compEnvC scope cl C X.env) fp) ifs t)
    (hi1 : ∀ (s : Shared) (H : Hp) (C : Addr) (cl : List (Str × Addr)) (fp : List Addr), ID (X.blk s H scope (compEnvC scope cl C X.env) fp) WF tg1 iter1 di1)
    (hg1 : ∀ (s : Shared) (H : Hp) (C : Addr) (cl : List (Str × Addr)) (fp : List Addr), TgW (X.blk s H scope (compEnvC scope cl C X.env) fp) tg1 g1 vs1) (ht1 : ∀ (s : Shared) (H : Hp) (C : Addr) (cl : List (Str × Addr)) (fp : List Addr), TsD (X.blk s H scope (compEnvC scope cl C X.env) fp) ifs1 t1)
    (he : ∀ (s : Shared) (H : Hp) (C : Addr) (cl : List (Str × Addr)) (fp : List Addr), PD (X.blk s H scope (compEnvC scope cl C X.env) fp) WF elt de) (hs : ∀ x, foldedSetIterable iter X.env x = pure x := by intro _; rfl) (hs1 : ∀ env x, foldedSetIterable iter1 env x = pure x := by intro _ _; rfl) :
    PD X W (.ListComp elt [⟨tg, iter, ifs, 0⟩, ⟨tg1, iter1, ifs1, 0⟩] scope pos) (dLc2 di g t di1 g1 t1 de (own.map (·.2)) vs1) :=
  peImp (pe_lc2 (g := liftGw X.K g (own.map Prod.snd)) (tt := liftT X.K WF t) (wi1 := liftI X.K WF di1) (g1 := liftGw X.K g1 vs1) (tt1 := liftT X.K WF t1) (te := liftE X.K WF de) hc hN hi ok hv hg ht hi1 hg1 ht1 he hs hs1) lift_lc2
end
end DL
set_option maxRecDepth 100000
set_option maxHeartbeats 4000000
namespace DL
open PySem PySem.Spec PyProof.Rows L2
section
variable {M : Mem} {q : QD}
theorem ifB {b : Bool} {A B : Prop} (h1 : b = true → A) (h2 : b = false → B) : if b = true then A else B := by
  cases b with
  | true => exact iteT (h1 rfl)
  | false => exact iteF (h2 rfl)
theorem ifD {p : Prop} [Decidable p] {A B : Prop} (h1 : p → A) (h2 : ¬ p → B) : if decide p = true then A else B := ifB (fun h => h1 (of_decide_eq_true h)) fun h => h2 (of_decide_eq_false h)
theorem ifYes {b : Bool} {A B : Prop} (h : b = true) (h1 : A) : if b = true then A else B := by rw [if_pos h]; exact h1
theorem ifNo {b : Bool} {A B : Prop} (h : b = false) (h1 : B) : if b = true then A else B := by rw [if_neg (by rw [h]; exact Bool.false_ne_true)]; exact h1
theorem ix_cel {c : Addr} {xs : List D} {i : Int} {d : D} (h : M c = some (.ls xs)) (e : atI xs i = some d) (w : q d M) : rdIx (.cel c) (.int i) M q := ⟨xs, i, d, celL_of h, rfl, e, w⟩
theorem ix_lst {xs : List D} {i : Int} {d : D} (e : atI xs i = some d) (w : q d M) : rdIx (.lst xs) (.int i) M q := ⟨xs, i, d, rfl, rfl, e, w⟩
theorem ix_tup {xs : List D} {i : Int} {d : D} (e : atI xs i = some d) (w : q d M) : rdIx (.tup xs) (.int i) M q := ⟨xs, i, d, rfl, rfl, e, w⟩
theorem ix_str {x : Str} {i : Int} {c : Nat} (z : x.length ≤ sizeLine) (e : atI x.cps.toList i = some c) (w : q (.str ⟨#[c]⟩) M) : rdIx (.str x) (.int i) M q := ⟨x, i, c, rfl, rfl, z, e, w⟩
theorem add_int {i j : Int} (w : q (.int (i + j)) M) : rdAdd (.int i) (.int j) M q := w
theorem add_str {a b : Str} (h : a.length + b.length ≤ sizeLine) (w : q (.str (a ++ b)) M) : rdAdd (.str a) (.str b) M q := ⟨h, w⟩
theorem add_tup {a b : List D} (h : a.length + b.length ≤ sizeLine) (w : q (.tup (a ++ b)) M) : rdAdd (.tup a) (.tup b) M q := ⟨h, w⟩
theorem add_lst {x y : D} {a b : List D} (hx : lstOf M x = some a) (hy : lstOf M y = some b) (h : a.length + b.length ≤ sizeLine) (w : q (.lst (a ++ b)) M) : rdAdd x y M q := by
  cases x with
  | lst _ => exact ⟨a, b, hx, hy, h, w⟩
  | cel _ => exact ⟨a, b, hx, hy, h, w⟩
  | _ => cases hx
theorem str_len (a : Str) : a.length = a.cps.toList.length := by
  show a.cps.size = _
  rw [Array.length_toList]
theorem sub_int {i j : Int} (w : q (.int (i - j)) M) : rdSub (.int i) (.int j) M q := ⟨trivial, w⟩
theorem mul_int {i j : Int} (c : IntMulOk i j) (w : q (.int (i * j)) M) : rdMul (.int i) (.int j) M q := ⟨c, w⟩
theorem mul_l {i j : Int} (c : -(2 ^ 64) < i) (c' : i < 2 ^ 64) (w : q (.int (i * j)) M) : rdMul (.int i) (.int j) M q := ⟨CMul.ok (.inl ⟨c, c'⟩), w⟩
theorem mul_r {i j : Int} (c : -(2 ^ 64) < j) (c' : j < 2 ^ 64) (w : q (.int (i * j)) M) : rdMul (.int i) (.int j) M q := ⟨CMul.ok (.inr ⟨c, c'⟩), w⟩
theorem mod_int {i j : Int} (c : 0 < j) (w : q (.int (i % j)) M) : rdMod (.int i) (.int j) M q := ⟨c, w⟩
/-- what is left: some number below -/
theorem mod_any {i j : Int} (c : 0 < j) (w : ∀ r, 0 ≤ r → r < j → q (.int r) M) : rdMod (.int i) (.int j) M q := ⟨c, w _ (Int.emod_nonneg _ (by omega)) (Int.emod_lt_of_pos _ c)⟩
theorem div_int {i j : Int} (c : 0 < j) (c' : j < 1073741824) (w : q (.int (i / j)) M) : rdDiv (.int i) (.int j) M q := ⟨⟨c, c'⟩, w⟩
theorem dm_int {i j : Int} (c : 0 < j) (c' : j < 1073741824) (w : q (.tup [.int (i / j), .int (i % j)]) M) : rdDivmod [.int i, .int j] M q := ⟨⟨c, c'⟩, w⟩
theorem lt_int {i j : Int} (w : q (.bl (decide (i < j))) M) : rdLt (.int i) (.int j) M q := ⟨trivial, w⟩
theorem le_int {i j : Int} (w : q (.bl (decide (i ≤ j))) M) : rdLe (.int i) (.int j) M q := ⟨trivial, w⟩
theorem gt_int {i j : Int} (w : q (.bl (decide (j < i))) M) : rdGt (.int i) (.int j) M q := ⟨trivial, w⟩
theorem ge_int {i j : Int} (w : q (.bl (decide (j ≤ i))) M) : rdGe (.int i) (.int j) M q := ⟨trivial, w⟩
theorem int_int {i : Int} (w : q (.int i) M) : rdInt [.int i] M q := w
theorem len_lst {xs : List D} (w : q (.int xs.length) M) : rdLen [.lst xs] M q := ⟨_, rfl, xs, rfl, w⟩
theorem len_tup {xs : List D} (w : q (.int xs.length) M) : rdLen [.tup xs] M q := ⟨_, rfl, xs, rfl, w⟩
theorem len_cel {c : Addr} {xs : List D} (h : M c = some (.ls xs)) (w : q (.int xs.length) M) : rdLen [.cel c] M q := ⟨_, rfl, xs, celL_of h, w⟩
theorem len_str {x : Str} (z : x.length ≤ sizeLine) (w : q (.int x.length) M) : rdLen [.str x] M q := ⟨_, rfl, z, w⟩
theorem eq_int {i j : Int} (w : q (.bl (decide (i = j))) M) : rdEq (.int i) (.int j) M q := by
  refine .inl ⟨.int i, .int j, rfl, rfl, rfl, rfl, ?_⟩
  have e : PyData.eqv (.int i) (.int j) = decide (i = j) := by
    first
    | rfl
    | (unfold PyData.eqv; rfl)
    | simp [PyData.eqv]
  rw [e]; exact w
theorem eq_str {i j : Str} (hi : PyData.strOk i = true) (hj : PyData.strOk j = true) (w : q (.bl (decide (i = j))) M) : rdEq (.str i) (.str j) M q := .inr ⟨i, j, rfl, rfl, w⟩
theorem ne_strA {i j : Str} (w : q (.bl (!decide (i = j))) M) : rdNe (.str i) (.str j) M q := .inr ⟨i, j, rfl, rfl, w⟩
theorem ne_int {i j : Int} (w : q (.bl (!decide (i = j))) M) : rdNe (.int i) (.int j) M q := by
  refine .inl ⟨.int i, .int j, rfl, rfl, rfl, rfl, ?_⟩
  have e : PyData.eqv (.int i) (.int j) = decide (i = j) := by
    first
    | rfl
    | (unfold PyData.eqv; rfl)
    | simp [PyData.eqv]
  rw [e]; exact w
end
/-- all cells that were there are as they were -/
def Kept (M M' : Mem) : Prop := ∀ c x, M c = some x → M' c = some x
theorem Kept.refl (M : Mem) : Kept M M := fun _ _ h => h
theorem Kept.trans {M M' M'' : Mem} (a : Kept M M') (b : Kept M' M'') : Kept M M'' := fun c x h => b c x (a c x h)
theorem Kept.new {M : Mem} {c : Addr} {x : Cel} (h : M c = none) : Kept M (mset M c x) := fun d y e => by
  by_cases q : d = c
  · subst q; rw [h] at e; cases e
  · rw [mset_ne q]; exact e
theorem Kept.put {M M' : Mem} {c : Addr} {x : Cel} (a : Kept M M') (h : M c = none) : Kept M (mset M' c x) := fun d y e => by
  by_cases q : d = c
  · subst q; rw [h] at e; cases e
  · rw [mset_ne q]; exact a d y e
theorem Kept.del {M M' : Mem} {c : Addr} (a : Kept M M') (h : M c = none) : Kept M (mdel M' c) := fun d y e => by
  by_cases q : d = c
  · subst q; rw [h] at e; cases e
  · unfold mdel; rw [if_neg q]; exact a d y e
/-- .. but one -/
def KeptB (k : Addr) (M M' : Mem) : Prop := ∀ c x, M c = some x → c ≠ k → M' c = some x
theorem KeptB.refl {k : Addr} (M : Mem) : KeptB k M M := fun _ _ h _ => h
theorem KeptB.trans {k : Addr} {M M' M'' : Mem} (a : KeptB k M M') (b : KeptB k M' M'') : KeptB k M M'' := fun c x h n => b c x (a c x h n) n
theorem Kept.b {k : Addr} {M M' : Mem} (a : Kept M M') : KeptB k M M' := fun c x h _ => a c x h
theorem KeptB.self {k : Addr} {M M' : Mem} {x : Cel} (a : KeptB k M M') : KeptB k M (mset M' k x) := fun c y h n => by rw [mset_ne n]; exact a c y h n
theorem KeptB.put {k : Addr} {M M' : Mem} {c : Addr} {x : Cel} (a : KeptB k M M') (h : M c = none) : KeptB k M (mset M' c x) := fun d y e n => by
  by_cases q : d = c
  · subst q; rw [h] at e; cases e
  · rw [mset_ne q]; exact a d y e n
theorem KeptB.del {k : Addr} {M M' : Mem} {c : Addr} (a : KeptB k M M') (h : M c = none) : KeptB k M (mdel M' c) := fun d y e n => by
  by_cases q : d = c
  · subst q; rw [h] at e; cases e
  · unfold mdel; rw [if_neg q]; exact a d y e n
theorem seq_kept {k : Addr} {M M' : Mem} {d : D} {xs : List D} (h : KeptB k M M') (n : d ≠ .cel k) (e : seqOf M d = some xs) : seqOf M' d = some xs := by
  cases d with
  | cel c => exact celL_of (h c _ (celL_eq e) fun z => n (by rw [z]))
  | lst _ => exact e
  | lsf _ => exact e
  | tup _ => exact e
  | _ => cases e
theorem len_seq {M : Mem} {q : QD} {d : D} {xs : List D} (e : seqOf M d = some xs) (w : q (.int xs.length) M) : rdLen [d] M q := by
  refine ⟨d, rfl, ?_⟩
  cases d with
  | str _ => cases e
  | _ => exact ⟨xs, e, w⟩
theorem ix_seq {M : Mem} {q : QD} {d : D} {xs : List D} {i : Int} {x : D} (e : seqOf M d = some xs) (h : atI xs i = some x) (w : q x M) : rdIx d (.int i) M q := by
  cases d with
  | str _ => cases e
  | _ => exact ⟨xs, i, x, e, rfl, h, w⟩
theorem atI_in {α : Type} {xs : List α} {i : Int} (h0 : 0 ≤ i) (h1 : i < xs.length) : ∃ x, atI xs i = some x ∧ x ∈ xs := by
  obtain ⟨n, rfl⟩ := Int.eq_ofNat_of_zero_le h0
  have hn : n < xs.length := by omega
  refine ⟨xs[n], ?_, List.getElem_mem hn⟩
  unfold atI ixN
  rw [if_pos h0, if_pos h1]
  exact List.getElem?_eq_getElem hn
theorem atI_nat {α : Type} {xs : List α} {n : Nat} {x : α} (h : xs[n]? = some x) : atI xs (n : Int) = some x := by
  have hn := (List.getElem?_eq_some_iff.mp h).1
  unfold atI ixN
  rw [if_pos (Int.natCast_nonneg n), if_pos (by omega)]
  exact h
theorem atI_zero {α : Type} {x : α} {xs : List α} : atI (x :: xs) 0 = some x := atI_nat (n := 0) rfl
section
variable {ok : Mem → Prop} {g : GD} {body : DS} {d : EndD} {xs : List D}
/-- a loop over a list: I i: ahead of the i-th turn -/
theorem for_lst (I : Nat → EnvD → Mem → Prop) (h0 : ∀ env M, I xs.length env M → ok M ∧ d.nx env M)
    (hs : ∀ i x env M, xs[i]? = some x → I i env M → ∀ nx : EnvD → Mem → Prop, (∀ env' M', I (i + 1) env' M' → nx env' M') → ok M ∧ g x env M (fun env' M' => body { d with nx := nx, ct := nx, bk := d.nx } env' M') d.ex) (env : EnvD) (M : Mem) (h : I 0 env M) : forW ok g body d xs env M := by
  have : ∀ (r : List D) (i : Nat) env M, r = xs.drop i → i ≤ xs.length → I i env M → forW ok g body d r env M := by
    intro r
    induction r with
    | nil =>
      intro i env M e hi hI
      have : i = xs.length := by
        have := congrArg List.length e
        rw [List.length_nil, List.length_drop] at this
        omega
      subst this
      exact h0 env M hI
    | cons x r ih =>
      intro i env M e hi hI
      have hlt : i < xs.length := by
        have := congrArg List.length e
        rw [List.length_cons, List.length_drop] at this
        omega
      rw [List.drop_eq_getElem_cons hlt] at e
      injection e with e1 e2
      exact hs i x env M (by rw [e1]; exact List.getElem?_eq_getElem hlt) hI _ fun env' M' h' => ih (i + 1) env' M' e2 hlt h'
  exact this xs 0 env M rfl (Nat.zero_le _) h
theorem for_rng {lo : Int} {n : Nat} (I : Nat → EnvD → Mem → Prop) (h0 : ∀ env M, I n env M → ok M ∧ d.nx env M)
    (hs : ∀ i env M, i < n → I i env M → ∀ nx : EnvD → Mem → Prop, (∀ env' M', I (i + 1) env' M' → nx env' M') → ok M ∧ g (.int (lo + (i : Nat))) env M (fun env' M' => body { d with nx := nx, ct := nx, bk := d.nx } env' M') d.ex) (env : EnvD) (M : Mem) (h : I 0 env M) : forW ok g body d (rngD lo n) env M := by
  have hl : (rngD lo n).length = n := by unfold rngD; rw [List.length_map, List.length_range]
  refine for_lst I (by rw [hl]; exact h0) (fun i x env M hx hI nx hn => ?_) env M h
  unfold rngD at hx
  rw [List.getElem?_map] at hx
  obtain ⟨j, hj, rfl⟩ := omap hx
  obtain ⟨h1, h2⟩ := List.getElem?_eq_some_iff.mp hj
  rw [List.length_range] at h1
  rw [List.getElem_range] at h2
  subst h2
  exact hs i env M h1 hI nx hn
end
section
variable {ok : Mem → Prop} {g : GD} {t : DT} {de : DE} {env : EnvD} {q : QD} {c : Addr} {xs : List D}
theorem lc_lst (I : Nat → Mem → Prop) (h0 : ∀ M, I xs.length M → ok M ∧ ∃ ys, M c = some (.ls ys) ∧ q (.lst ys) (mdel M c))
    (hs : ∀ i x M, xs[i]? = some x → I i M → ∀ nx : Mem → Prop, (∀ M', I (i + 1) M' → nx M') →
      ok M ∧ g x env M (fun env' M' => t env' M' (fun b M2 => if b = true then de env' M2 (fun y M3 => ∃ ys, M3 c = some (.ls ys) ∧ ys.length < sizeLine ∧ nx (mset M3 c (.ls (ys ++ [y])))) noX else nx M2) noX) (fun _ => noX)) (M : Mem) (h : I 0 M) : lcW ok g t de env q c xs M := by
  have : ∀ (r : List D) (i : Nat) M, r = xs.drop i → i ≤ xs.length → I i M → lcW ok g t de env q c r M := by
    intro r
    induction r with
    | nil =>
      intro i M e hi hI
      have : i = xs.length := by
        have := congrArg List.length e
        rw [List.length_nil, List.length_drop] at this
        omega
      subst this
      exact h0 M hI
    | cons x r ih =>
      intro i M e hi hI
      have hlt : i < xs.length := by
        have := congrArg List.length e
        rw [List.length_cons, List.length_drop] at this
        omega
      rw [List.drop_eq_getElem_cons hlt] at e
      injection e with e1 e2
      exact hs i x M (by rw [e1]; exact List.getElem?_eq_getElem hlt) hI _ fun M' h' => ih (i + 1) M' e2 hlt h'
  exact this xs 0 M rfl (Nat.zero_le _) h
/-- nothing but the new list changes: which items are taken, what is made of them -/
theorem lc_pure {M : Mem} (p : D → Bool) (f : D → D) (hc : M c = none) (hn : xs.length ≤ sizeLine) (hok : ∀ acc, ok (mset M c (.ls acc)))
    (hs : ∀ x, x ∈ xs → ∀ (acc : List D), acc.length < sizeLine → ∀ nx : Mem → Prop, (p x = true → nx (mset M c (.ls (acc ++ [f x])))) → (p x = false → nx (mset M c (.ls acc))) →
      g x env (mset M c (.ls acc)) (fun env' M' => t env' M' (fun b M2 => if b = true then de env' M2 (fun y M3 => ∃ ys, M3 c = some (.ls ys) ∧ ys.length < sizeLine ∧ nx (mset M3 c (.ls (ys ++ [y])))) noX else nx M2) noX) (fun _ => noX))
    (hq : q (.lst ((xs.filter p).map f)) M) : lcW ok g t de env q c xs (mset M c (.ls [])) := by
  refine lc_lst (fun i M' => M' = mset M c (.ls (((xs.take i).filter p).map f))) (fun M' e => ?_) (fun i x M' hx e nx hnx => ?_) _ (by rw [List.take_zero]; rfl)
  · subst e
    rw [List.take_length]
    refine ⟨hok _, _, mset_same, ?_⟩
    rw [mdel_mset hc]
    exact hq
  · subst e
    have hlt := (List.getElem?_eq_some_iff.mp hx).1
    have e1 : xs.take (i + 1) = xs.take i ++ [x] := by
      rw [List.take_succ, hx]; rfl
    refine ⟨hok _, hs x (List.mem_of_getElem? hx) _ ?_ nx (fun hp => hnx _ ?_) fun hp => hnx _ ?_⟩
    · rw [List.length_map]
      have := List.length_filter_le p (xs.take i)
      rw [List.length_take] at this
      omega
    · rw [e1, List.filter_append, List.map_append]
      have : ([x] : List D).filter p = [x] := by simp [hp]
      rw [this]; rfl
    · rw [e1, List.filter_append]
      have : ([x] : List D).filter p = [] := by simp [hp]
      rw [this, List.append_nil]
theorem in_lst {ok : Mem → Prop} {g : GD} {t : DT} {de : DE} {env : EnvD} {c : Addr} {nx0 : Mem → Prop} {xs : List D} (I : Nat → Mem → Prop) (h0 : ∀ M, I xs.length M → ok M ∧ nx0 M)
    (hs : ∀ i x M, xs[i]? = some x → I i M → ∀ nx : Mem → Prop, (∀ M', I (i + 1) M' → nx M') →
      ok M ∧ g x env M (fun env' M' => t env' M' (fun b M2 => if b = true then de env' M2 (fun y M3 => ∃ ys, M3 c = some (.ls ys) ∧ ys.length < sizeLine ∧ nx (mset M3 c (.ls (ys ++ [y])))) noX else nx M2) noX) (fun _ => noX)) (M : Mem) (h : I 0 M) : inW ok g t de env c nx0 xs M := by
  have : ∀ (r : List D) (i : Nat) M, r = xs.drop i → i ≤ xs.length → I i M → inW ok g t de env c nx0 r M := by
    intro r
    induction r with
    | nil =>
      intro i M e hi hI
      have : i = xs.length := by
        have := congrArg List.length e
        rw [List.length_nil, List.length_drop] at this
        omega
      subst this
      exact h0 M hI
    | cons x r ih =>
      intro i M e hi hI
      have hlt : i < xs.length := by
        have := congrArg List.length e
        rw [List.length_cons, List.length_drop] at this
        omega
      rw [List.drop_eq_getElem_cons hlt] at e
      injection e with e1 e2
      exact hs i x M (by rw [e1]; exact List.getElem?_eq_getElem hlt) hI _ fun M' h' => ih (i + 1) M' e2 hlt h'
  exact this xs 0 M rfl (Nat.zero_le _) h
theorem lc2_lst {ok : Mem → Prop} {g : GD} {t : DT} {di1 : DI} {g1 : GD} {t1 : DT} {de : DE} {vs1 : List Nat} {env : EnvD} {q : QD} {c : Addr} {xs : List D} (I : Nat → Mem → Prop) (h0 : ∀ M, I xs.length M → ok M ∧ ∃ ys, M c = some (.ls ys) ∧ q (.lst ys) (mdel M c))
    (hs : ∀ i x M, xs[i]? = some x → I i M → ∀ nx : Mem → Prop, (∀ M', I (i + 1) M' → nx M') →
      ok M ∧ g x env M (fun env' M' => t env' M' (fun b M2 => if b = true then di1 env' M2 (fun items1 ok1 M3 => inW ok1 g1 t1 de (wipeD env' vs1) c (fun M4 => nx M4) items1 M3) noX else nx M2) noX) (fun _ => noX)) (M : Mem) (h : I 0 M) : lc2W ok g t di1 g1 t1 de vs1 env q c xs M := by
  have : ∀ (r : List D) (i : Nat) M, r = xs.drop i → i ≤ xs.length → I i M → lc2W ok g t di1 g1 t1 de vs1 env q c r M := by
    intro r
    induction r with
    | nil =>
      intro i M e hi hI
      have : i = xs.length := by
        have := congrArg List.length e
        rw [List.length_nil, List.length_drop] at this
        omega
      subst this
      exact h0 M hI
    | cons x r ih =>
      intro i M e hi hI
      have hlt : i < xs.length := by
        have := congrArg List.length e
        rw [List.length_cons, List.length_drop] at this
        omega
      rw [List.drop_eq_getElem_cons hlt] at e
      injection e with e1 e2
      exact hs i x M (by rw [e1]; exact List.getElem?_eq_getElem hlt) hI _ fun M' h' => ih (i + 1) M' e2 hlt h'
  exact this xs 0 M rfl (Nat.zero_le _) h
theorem acc_put {M : Mem} {acc : List D} {y : D} {nx : Mem → Prop} (hz : acc.length < sizeLine) (h : nx (mset M c (.ls (acc ++ [y])))) : ∃ ys, (mset M c (.ls acc)) c = some (.ls ys) ∧ ys.length < sizeLine ∧ nx (mset (mset M c (.ls acc)) c (.ls (ys ++ [y]))) :=
  ⟨acc, mset_same, hz, by rw [mset_mset]; exact h⟩
end
theorem flats_str : ∀ xs : List Str, flats (xs.map D.str) = some (xs.map V.str)
  | [] => rfl
  | x :: xs => by
    show (match flat (.str x), flats (xs.map D.str) with | some v, some vs => some (v :: vs) | _, _ => none) = _
    rw [flats_str xs]; rfl
theorem flats_int : ∀ xs : List Int, flats (xs.map D.int) = some (xs.map V.int)
  | [] => rfl
  | x :: xs => by
    show (match flat (.int x), flats (xs.map D.int) with | some v, some vs => some (v :: vs) | _, _ => none) = _
    rw [flats_int xs]; rfl
theorem inV_str (x : Str) : ∀ xs : List Str, inV (.str x) (xs.map V.str) = decide (x ∈ xs)
  | [] => by simp [inV]
  | y :: ys => by
    have ih := inV_str x ys
    unfold inV at ih ⊢
    rw [List.map_cons, List.any_cons, ih]
    show ((y == x) || decide (x ∈ ys)) = _
    by_cases e : y = x
    · subst e; simp
    · simp [e, Ne.symm e]
theorem inV_int (x : Int) : ∀ xs : List Int, inV (.int x) (xs.map V.int) = decide (x ∈ xs)
  | [] => by simp [inV]
  | y :: ys => by
    have ih := inV_int x ys
    unfold inV at ih ⊢
    rw [List.map_cons, List.any_cons, ih]
    show ((y == x) || decide (x ∈ ys)) = _
    by_cases e : y = x
    · subst e; simp
    · simp [e, Ne.symm e]
section
variable {M : Mem} {q : QD}
theorem in_q {neg : Bool} {x d : D} {xs : List D} {v : V} {vs : List V} (e : seqOf M d = some xs) (ex : flat x = some v) (es : flats xs = some vs) (w : q (.bl (if neg then !inV v vs else inV v vs)) M) : rdIn neg x d M q := by
  cases d with
  | str _ => cases e
  | _ => exact ⟨xs, v, vs, e, ex, es, w⟩
theorem in_str {x : Str} {d : D} {xs : List Str} (e : seqOf M d = some (xs.map D.str)) (w : q (.bl (decide (x ∈ xs))) M) : rdIn false (.str x) d M q :=
  in_q e rfl (flats_str xs) (by rw [inV_str]; exact w)
theorem ni_str {x : Str} {d : D} {xs : List Str} (e : seqOf M d = some (xs.map D.str)) (w : q (.bl (!decide (x ∈ xs))) M) : rdIn true (.str x) d M q :=
  in_q e rfl (flats_str xs) (by rw [inV_str]; exact w)
theorem in_int {x : Int} {d : D} {xs : List Int} (e : seqOf M d = some (xs.map D.int)) (w : q (.bl (decide (x ∈ xs))) M) : rdIn false (.int x) d M q :=
  in_q e rfl (flats_int xs) (by rw [inV_int]; exact w)
theorem ni_int {x : Int} {d : D} {xs : List Int} (e : seqOf M d = some (xs.map D.int)) (w : q (.bl (!decide (x ∈ xs))) M) : rdIn true (.int x) d M q :=
  in_q e rfl (flats_int xs) (by rw [inV_int]; exact w)
theorem shL0 : SeqAt.shaped (.list []) = true := by
  unfold SeqAt.shaped
  simp [PyData.canLay0, PyData.canLayAll0, PyData.depth, PyData.depthAll]
theorem ne_nil {d : D} {p : List PyData} (e : pyOf M d = some (.list p)) (hs : SeqAt.shaped (.list p) = true) (w : q (.bl (!p.isEmpty)) M) : rdNe d (.lst []) M q := by
  refine .inl ⟨.list p, .list [], e, rfl, hs, shL0, ?_⟩
  have : PyData.eqv (.list p) (.list []) = p.isEmpty := by
    cases p <;> simp [PyData.eqv, PyData.eqvAll]
  rw [this]; exact w
theorem toPys_str : ∀ xs : List Str, toPys (xs.map D.str) = some (xs.map PyData.str)
  | [] => rfl
  | x :: xs => by
    show (match toPy (.str x), toPys (xs.map D.str) with | some p, some ps => some (p :: ps) | _, _ => none) = _
    rw [toPys_str xs]; rfl
theorem toPys_int : ∀ xs : List Int, toPys (xs.map D.int) = some (xs.map PyData.int)
  | [] => rfl
  | x :: xs => by
    show (match toPy (.int x), toPys (xs.map D.int) with | some p, some ps => some (p :: ps) | _, _ => none) = _
    rw [toPys_int xs]; rfl
theorem shInts (xs : List Int) : SeqAt.shaped (.list (xs.map PyData.int)) = true := by
  have a : PyData.canLayAll0 (xs.map PyData.int) = true := by
    induction xs with
    | nil => rfl
    | cons x xs ih =>
      rw [List.map_cons]
      show (PyData.canLay0 (.int x) && PyData.canLayAll0 (xs.map PyData.int)) = true
      rw [ih]
      simp [PyData.canLay0]
  have b : PyData.depthAll (xs.map PyData.int) = 0 := by
    clear a
    induction xs with
    | nil => rfl
    | cons x xs ih => rw [List.map_cons]; simp [PyData.depthAll, PyData.depth, ih]
  unfold SeqAt.shaped; simp [PyData.canLay0, PyData.depth, a, b]
theorem cut_to {α : Type} (xs : List α) (n : Nat) : cutD xs none (some (n : Int)) = xs.take n := by
  unfold cutD
  rw [HT.sIx_none, HT.sIx_nat, Nat.sub_zero, List.drop_zero]
  by_cases h : n ≤ xs.length
  · rw [Nat.min_eq_left h]
  · rw [Nat.min_eq_right (by omega), List.take_of_length_le (Nat.le_refl _), List.take_of_length_le (by omega)]
theorem cut_from {α : Type} (xs : List α) (n : Nat) : cutD xs (some (n : Int)) none = xs.drop n := by
  unfold cutD
  rw [HT.sIx_none, HT.sIx_nat]
  by_cases h : n ≤ xs.length
  · rw [Nat.min_eq_left h, List.take_of_length_le (by rw [List.length_drop]; omega)]
  · rw [Nat.min_eq_right (by omega), List.drop_of_length_le (Nat.le_refl _), List.drop_of_length_le (by omega), List.take_nil]
theorem sl_lst {xs : List D} {n : Nat} (w : q (.lst (xs.take n)) M) : rdSl (.lst xs) none (some (n : Int)) M q := ⟨xs, rfl, by rw [cut_to]; exact w⟩
theorem sl_tup {xs : List D} {n : Nat} (w : q (.tup (xs.take n)) M) : rdSl (.tup xs) none (some (n : Int)) M q := by
  show q (.tup (cutD xs none (some (n : Int)))) M
  rw [cut_to]; exact w
theorem slf_tup {xs : List D} {n : Nat} (w : q (.tup (xs.drop n)) M) : rdSl (.tup xs) (some (n : Int)) none M q := by
  show q (.tup (cutD xs (some (n : Int)) none)) M
  rw [cut_from]; exact w
theorem sl_str {x : Str} {n : Nat} (z : x.length ≤ sizeLine) (w : ∀ y : Str, y.cps.toList = x.cps.toList.take n → q (.str y) M) : rdSl (.str x) none (some (n : Int)) M q := by
  refine ⟨z, w _ ?_⟩
  have e : (cutS x none (some (n : Int))).cps.toList = cutD x.cps.toList none (some (n : Int)) := by
    unfold cutS cutD
    rw [str_len]
  rw [e, cut_to]
end
section
variable {M : Mem} {q : QD}
theorem min_int {i j : Int} (w : ∀ m, m ≤ i → m ≤ j → (m = i ∨ m = j) → q (.int m) M) : rdMin2 [.int i, .int j] M q := by
  show q (.int (if j < i then j else i)) M
  by_cases h : j < i
  · rw [if_pos h]; exact w j (by omega) (by omega) (.inr rfl)
  · rw [if_neg h]; exact w i (by omega) (by omega) (.inl rfl)
theorem max_int {i j : Int} (w : ∀ m, i ≤ m → j ≤ m → (m = i ∨ m = j) → q (.int m) M) : rdMax2 [.int i, .int j] M q := by
  show q (.int (if j > i then j else i)) M
  by_cases h : j > i
  · rw [if_pos h]; exact w j (by omega) (by omega) (.inr rfl)
  · rw [if_neg h]; exact w i (by omega) (by omega) (.inl rfl)
theorem sl_lsf {xs : List D} {n : Nat} (w : q (.lst (xs.take n)) M) : rdSl (.lsf xs) none (some (n : Int)) M q := ⟨xs, rfl, by rw [cut_to]; exact w⟩
theorem pow_int {i j : Int} (c : CPow i j) (w : q (.int (i ^ j.toNat)) M) : rdPow (.int i) (.int j) M q := ⟨c, w⟩
theorem in_sign {c : Nat} {z : Str} (w : q (.bl (decide (c ∈ z.cps.toList))) M) : rdIn false (.str ⟨#[c]⟩) (.str z) M q := ⟨c, rfl, w⟩
theorem bls_all {b : Bool} : ∀ {xs : List D}, (∀ x ∈ xs, x = .bl b) → bls xs = some (xs.map fun _ => b)
  | [], _ => rfl
  | x :: xs, h => by
    have e := h x List.mem_cons_self
    subst e
    show (bls xs).map (b :: ·) = _
    rw [bls_all fun y hy => h y (List.mem_cons_of_mem _ hy)]
    rfl
theorem all_true {xs : List D} (h : ∀ x ∈ xs, x = .bl true) (w : q (.bl true) M) : rdAll [.lst xs] M q := by
  refine ⟨_, xs, _, rfl, rfl, bls_all h, ?_⟩
  have : (xs.map fun _ => true).all id = true := by simp
  rw [this]; exact w
theorem any_false {xs : List D} (h : ∀ x ∈ xs, x = .bl false) (w : q (.bl false) M) : rdAny [.lst xs] M q := by
  refine ⟨_, xs, _, rfl, rfl, bls_all h, ?_⟩
  have : (xs.map fun _ => false).any id = false := by simp
  rw [this]; exact w
end
/-- no more than the other has, if all are there and none twice -/
theorem nodup_len {α : Type} [DecidableEq α] : ∀ {xs ys : List α}, xs.Nodup → (∀ x ∈ xs, x ∈ ys) → xs.length ≤ ys.length
  | [], _, _, _ => Nat.zero_le _
  | x :: xs, ys, hn, h => by
    have hx := h x List.mem_cons_self
    obtain ⟨hn1, hn2⟩ := List.nodup_cons.mp hn
    have h2 : xs.length ≤ (ys.erase x).length := nodup_len hn2 fun y hy => by
      have hne : y ≠ x := fun e => hn1 (e ▸ hy)
      exact (List.mem_erase_of_ne hne).mpr (h y (List.mem_cons_of_mem _ hy))
    rw [List.length_erase_of_mem hx] at h2
    have : 0 < ys.length := List.length_pos_of_mem hx
    rw [List.length_cons]
    omega
end DL
set_option maxRecDepth 100000
set_option maxHeartbeats 4000000
namespace DL
open PySem PySem.Spec PyProof.Rows L2
def Pok (P : Program) (w : World) (K : PySem.W.Frag) (mg : Str → Option Value) (base : Heap) (C : Addr) (f : Str) (k : Nat) (sd : SpD) : Prop :=
  Cls K C ∧ ∃ (p g : Addr) (fd : FuncData) (ps : List Str), PropOf K C f p g ∧ Binds K fd ps [] ∧ FnOk P w K mg base (L2.CX P w) k g fd ps (spOf K 1 sd)
section
variable {X : Cx} {W : WX}
@[reducible] def dProp (C : Addr) (sd : SpD) (de : DE) : DE := fun env M q E => de env M (fun o M1 => ∃ fs, fsOf M1 C o = some fs ∧ sd [o] M1 q noX) E
theorem pd_prop {k : Nat} {C : Addr} {f : Str} {sd : SpD} {e : Expr} {de : DE} {pos : Pos} (F : Pok X.prog X.w X.K X.mg X.base C f k sd) (hr : Room (k + 1) X.A) (he : PD X W e de) (hab : attributeBase e f X.env (eval e X.env) = eval e X.env := by rfl) :
    PD X W (.Attribute e f pos) (dProp C sd de) := by
  obtain ⟨c, p, g, fd, ps, hp, hb, F⟩ := F
  exact peImp (pe_prop he c hp F hr hb .nil passL hab) fun σ H Q ⟨env, M, q, E, H0, so, S, h, k, kx⟩ => goE so S h kx fun x dx H1 H' M1 e1 so1 S1 rx ⟨fs, ef, w⟩ kx1 => by
    obtain ⟨a, d, fvs, rfl, q1, r⟩ := S1.obj rx ef
    exact ⟨a, d, fvs, rfl, q1, [dx], M1, q, noX, H1, rfl, .cons rx .nil, S1, w, k.mono e1, kx0⟩
def permL {α : Type} (pm : List Nat) (xs : List α) : List α := pm.filterMap fun i => xs[i]?
theorem permL_vals {xs : List V} {us : List Value} (r : Vals xs us) : ∀ pm : List Nat, Vals (permL pm xs) (permL pm us)
  | [] => .nil
  | i :: pm => by
    have ih := permL_vals r pm
    unfold permL at ih ⊢
    rw [List.filterMap_cons, List.filterMap_cons]
    cases hx : xs[i]? with
    | none =>
      have : us[i]? = none := by rw [List.getElem?_eq_none_iff] at hx ⊢; rw [← r.length]; exact hx
      rw [this]; exact ih
    | some x =>
      obtain ⟨u, hu, ru⟩ := r.get hx
      rw [hu]
      exact .cons ru ih
theorem permL_dn {K : PySem.W.Frag} {H : Hp} {vs : List V} {ds : List D} (r : DnL K H vs ds) : ∀ pm : List Nat, DnL K H (permL pm vs) (permL pm ds)
  | [] => .nil
  | i :: pm => by
    have ih := permL_dn r pm
    unfold permL at ih ⊢
    rw [List.filterMap_cons, List.filterMap_cons]
    cases hx : vs[i]? with
    | none =>
      have : ds[i]? = none := by rw [List.getElem?_eq_none_iff] at hx ⊢; rw [← r.length]; exact hx
      rw [this]; exact ih
    | some x =>
      obtain ⟨u, hu, ru⟩ := r.getV hx
      rw [hu]
      exact .cons ru ih
def KwPm (fd : FuncData) (ps : List Str) (ks : List Str) (pm : List Nat) : Prop := ∀ (s : Shared) (us ws : List Value), us.length = 1 → ws.length = ks.length → BindsTo s fd ⟨us, ks.zip ws⟩ (ps.zip (us ++ permL pm ws))
@[reducible] def dTryN (db : DS) : DS := fun d env M => db { d with ex := fun _ => noX } env M
def dcW (ok : Mem → Prop) (g : GD) (t : DT) (dk dv : DE) (env : EnvD) (q : QD) (c : Addr) : List D → Mem → Prop
  | [], M => ok M ∧ q (.cel c) M
  | x :: r, M => ok M ∧ g x env M (fun env' M' => t env' M' (fun b M2 => if b = true then dk env' M2 (fun y M3 => dv env' M3 (fun z M4 => ∃ s k, keyD y = some k ∧ M4 c = some (.dc s) ∧ s.length < sizeLine ∧ dcW ok g t dk dv env q c r (mset M4 c (.dc (setK s k z)))) noX) noX else dcW ok g t dk dv env q c r M2) noX) (fun _ => noX)
@[reducible] def dDc (di : DI) (g : GD) (t : DT) (dk dv : DE) (vs : List Nat) : DE := fun env M q E => di env M (fun items ok M1 => ∀ c, M1 c = none → dcW ok g t dk dv (wipeD env vs) q c items (mset M1 c (.dc []))) E
theorem SD.dput {K : PySem.W.Frag} {H0 H : Hp} {M : Mem} (S : SD K H0 H M) {c : Addr} {s : List (Key × D)} {r : List (Key × V)} (n0 : H0 c = none) (h : KvL K H0 r s) : SD K H0 (upd H c (.dK r)) (mset M c (.dc s)) := S.put (x := .dc s) n0 fun _ e => ⟨_, e, h⟩
theorem lift_dc {K : PySem.W.Frag} {di : DI} {g : GD} {t : DT} {dk dv : DE} {vs : List Nat} : ∀ σ H Q, liftE K W (dDc di g t dk dv vs) σ H Q → tDc (liftI K W di) (liftGw K g vs) (liftT K WF t) (liftE K WF dk) (liftE K WF dv) vs σ H Q := fun σ H Q ⟨env, M, q, E, H0, so, S, h, k, kx⟩ =>
  goI so S h kx fun J items ok H1 H' M1 e1 so1 S1 io w kx1 => by
    intro Dl hD
    have S1' := S1.dput (s := []) (r := []) (S1.fresh hD).1 .nil
    have sw := slot_wipe so1 vs
    refine ⟨fun i m H2 => m = items.length - i ∧ i ≤ items.length ∧ ∃ M2 H3, Ext H1 H3 ∧ SD K H3 H2 M2 ∧ dcW ok g t dk dv (wipeD env vs) q Dl (items.drop i) M2,
      ⟨_, rfl, Nat.zero_le _, _, H1, Ext.refl _, S1', w Dl (S1.fresh hD).2⟩, ?_⟩
    rintro i m H2 ⟨rfl, hi2, M2, H3, e3, S3, w3⟩
    by_cases hlt : i < items.length
    · have hx : items[i]? = some items[i] := List.getElem?_eq_getElem hlt
      rw [List.drop_eq_getElem_cons hlt] at w3
      obtain ⟨o3, w3⟩ := w3
      obtain ⟨g1, g2⟩ := io.go H3 H2 M2 i _ e3 S3 o3 hx
      refine .inr ⟨g1, fun H4 => ∃ M4 H5, Ext H1 H5 ∧ SD K H5 H4 M4 ∧ dcW ok g t dk dv (wipeD env vs) q Dl (items.drop (i + 1)) M4, fun H4 z => ⟨items.length - (i + 1), by omega, rfl, hlt, z⟩, fun x H4 y => ?_⟩
      obtain ⟨H5, e5, S5, r5⟩ := g2 x H4 y
      refine ⟨_, _, M2, _, H5, r5, sw.mono (e3.trans e5), S5, w3, fun σ6 env6 H6 H6' M6 e6 so6 S6 w6 wz => ⟨?_, goT so6 S6 w6 kx0 fun b H7 H7' M7 e7 so7 S7 w7 _ => ?_⟩⟩
      · have z : ∀ (ws : List Nat), (∀ v ∈ ws, v ∈ vs) → wipe (wipe σ vs) ws = wipe σ vs := fun ws => by
          induction ws with
          | nil => intro _; rfl
          | cons v ws ih =>
            intro hv
            show (wipe (wipe σ vs) ws).set v none = wipe σ vs
            rw [ih fun u hu => hv u (List.mem_cons_of_mem _ hu)]
            exact wipe_idem (hv v List.mem_cons_self)
        rw [wz]
        exact z vs fun _ h => h
      · have e17 : Ext H1 H7 := ((e3.trans e5).trans e6).trans e7
        cases b with
        | true =>
          refine iteT ?_
          refine goE so7 S7 (show dk env6 M7 _ noX from w7) kx0 fun v d H8 H8' M8 e8 so8 S8 r8 w8 _ => ?_
          refine goE so8 S8 w8 kx0 fun v' d' H9 H9' M9 e9 so9 S9 r9 ⟨s, kk, ek, ex, hl, w9⟩ _ => ?_
          obtain ⟨n0, us, e10, r10⟩ := S9.dict ex
          exact ⟨us, kk, keyD_dn r8 ek, e10, by rw [r10.length]; exact hl, _, H9, (e17.trans e8).trans e9, S9.dput n0 (r10.put r9), w9⟩
        | false => exact iteF ⟨M7, H7, e17, S7, w7⟩
    · have hge : items.length ≤ i := Nat.le_of_not_lt hlt
      rw [List.drop_eq_nil_of_le hge] at w3
      obtain ⟨o3, w3⟩ := w3
      exact .inl ⟨io.stop H3 H2 M2 i e3 S3 o3 hge, k _ _ H3 H2 _ (e1.trans e3) S3 (.cel Dl) w3⟩
theorem ps_setDc {i : Nat} {y : Str} {py : Pos} {kx vx tg iter : Expr} {ifs : List Expr} {scope : Scope} {own : List (Str × Nat)} {pos spos : Pos} {wi : TI} {g : TG} {tt : TT} {tk tv : TE} (hc : X.calm = true) (hN : X.N.Nodup) (hy : X.N[i]? = some y) (hyl : X.env.scope.names.lookup y = some .local)
    (hsw : swapsWith (.DictComp kx vx [⟨tg, iter, ifs, 0⟩] scope pos) (some (.Name y py)) spos.line X.env = pure true) (hi : PI X tg iter wi) (ok : BlkOk X.N X.env.scope scope own)
    (hg : ∀ (s : Shared) (H : Hp) (C : Addr) (cl : List (Str × Addr)) (fp : List Addr), PG (X.blk s H scope (compEnvC scope cl C X.env) fp) tg g) (ht : ∀ (s : Shared) (H : Hp) (C : Addr) (cl : List (Str × Addr)) (fp : List Addr), PTs (X.blk s H scope (compEnvC scope cl C X.env) fp) ifs tt)
    (hk : ∀ (s : Shared) (H : Hp) (C : Addr) (cl : List (Str × Addr)) (fp : List Addr), PE (X.blk s H scope (compEnvC scope cl C X.env) fp) kx tk)
    (he : ∀ (s : Shared) (H : Hp) (C : Addr) (cl : List (Str × Addr)) (fp : List Addr), PE (X.blk s H scope (compEnvC scope cl C X.env) fp) vx tv) (hs : ∀ x, foldedSetIterable iter X.env x = pure x := by intro _; rfl) :
    PS X (.Assign [.Name y py] (.DictComp kx vx [⟨tg, iter, ifs, 0⟩] scope pos) spos) (tAsg (tDc wi g tt tk tv (own.map (·.2))) (gName i)) := by
  refine ⟨fun pins s σ H D I h => ?_⟩
  rw [exec_Assign_Name_used _ _ _ _ hsw]
  refine wpAny_bind (wpAny_standAt (wpAny_bind ?_))
  show wpAny _ X.A (do let _ ← comprehension (.DictComp kx vx [⟨tg, iter, ifs, 0⟩] scope pos) scope X.env (firstIterPos [⟨tg, iter, ifs, 0⟩] pos) newDict false (eval iter X.env) (some (assign (.Name y py) X.env))) _ _ s
  have h : tDc wi g tt tk tv (own.map (·.2)) σ H (fun x H1 => gName i x σ H1 D.nx) := h
  refine wpAny_bind (thn (dc_core (Qf := fun _ s' => SP X pins D .next s') hc hN I hi ok hg ht hk he hs h fun L C s' m H' I' q hn f => ?_) fun _ s' hq => wpAny_pure (wpAny_pure hq))
  show wpAny _ _ (assign (.Name y py) X.env (.ref L)) _ _ _
  refine wpAny_assign_Name (store_ok2 (v := V.ref L) I' hN hy (.inl hyl) rfl (fun s2 I2 ⟨a, sb, ha⟩ => ?_) (.inr hyl))
  obtain ⟨f0, f1, f2, f3, f4, f5⟩ := f
  have haC : C ≠ a := by
    rcases ha with z | z
    · rw [z]; exact f1
    · exact fun e => f4 y a z e.symm
  refine ⟨m, hn.sameBut sb haC, fun h3 sb3 => ?_⟩
  exact ⟨_, H', I2.turned (t' := s2.toks) (fun b o hb e => (sb3.2 b hb).trans e) f0 f1 f3 f4 f5, q⟩
theorem sw_trueD {kx vx : Expr} {gs : List Comprehension} {scope : Scope} {pos py : Pos} {y : Str} {l : Nat} {env : Env} (hk : env.scope.kind = .function) (hy : env.scope.names.lookup y = some .local) (hl : (py.line == pos.line) = true)
    (ha : (scope.names.any fun (n, k) => n == y && (k == .local || k == .cell)) = false) : swapsWith (.DictComp kx vx gs scope pos) (some (.Name y py)) l env = pure true := by
  have ky : env.kindOf y = some .local := hy
  have hb : env.blockKind = .function := by unfold Env.blockKind; rw [hk]; rfl
  unfold swapsWith
  simp only [hb, ky, ha, Expr.pos, hl]
  rfl
theorem sd_setDc (i : Nat) {y : Str} {py : Pos} {kx vx tg iter : Expr} {ifs : List Expr} {scope : Scope} {own : List (Str × Nat)} {pos spos : Pos} {di : DI} {g : GD} {t : DT} {dk dv : DE} (hc : X.calm = true) (hN : X.N.Nodup)
    (hsw : swapsWith (.DictComp kx vx [⟨tg, iter, ifs, 0⟩] scope pos) (some (.Name y py)) spos.line X.env = pure true) (hi : ID X W tg iter di) (ok : BlkOk X.N X.env.scope scope own)
    (hg : ∀ (s : Shared) (H : Hp) (C : Addr) (cl : List (Str × Addr)) (fp : List Addr), TgW (X.blk s H scope (compEnvC scope cl C X.env) fp) tg g (own.map (·.2))) (ht : ∀ (s : Shared) (H : Hp) (C : Addr) (cl : List (Str × Addr)) (fp : List Addr), TsD (X.blk s H scope (compEnvC scope cl C X.env) fp) ifs t)
    (hk : ∀ (s : Shared) (H : Hp) (C : Addr) (cl : List (Str × Addr)) (fp : List Addr), PD (X.blk s H scope (compEnvC scope cl C X.env) fp) WF kx dk)
    (he : ∀ (s : Shared) (H : Hp) (C : Addr) (cl : List (Str × Addr)) (fp : List Addr), PD (X.blk s H scope (compEnvC scope cl C X.env) fp) WF vx dv) (hy : X.N[i]? = some y := by rfl) (hyl : X.env.scope.names.lookup y = some .local := by rfl)
    (hs : ∀ x, foldedSetIterable iter X.env x = pure x := by intro _; rfl) : SDt X W (.Assign [.Name y py] (.DictComp kx vx [⟨tg, iter, ifs, 0⟩] scope pos) spos) (dSet i (dDc di g t dk dv (own.map (·.2)))) :=
  psImp (ps_setDc (g := liftGw X.K g (own.map Prod.snd)) (tt := liftT X.K WF t) (tk := liftE X.K WF dk) (tv := liftE X.K WF dv) hc hN hy hyl hsw hi ok hg ht hk he hs) fun D σ H ⟨env, M, d, H0, so, S, h, k⟩ =>
    lift_dc σ H _ (goE so S h (k.ex.at so) fun x dx H1 H' M1 e1 so1 S1 rx w kx1 => k.nx _ _ H1 H' M1 e1 (so1.set i rx) S1 w)
end
section
variable {ok : Mem → Prop} {g : GD} {t : DT} {dk dv : DE} {env : EnvD} {q : QD} {c : Addr} {xs : List D}
theorem dc_lst (I : Nat → Mem → Prop) (h0 : ∀ M, I xs.length M → ok M ∧ q (.cel c) M)
    (hs : ∀ i x M, xs[i]? = some x → I i M → ∀ nx : Mem → Prop, (∀ M', I (i + 1) M' → nx M') →
      ok M ∧ g x env M (fun env' M' => t env' M' (fun b M2 => if b = true then dk env' M2 (fun y M3 => dv env' M3 (fun z M4 => ∃ s k, keyD y = some k ∧ M4 c = some (.dc s) ∧ s.length < sizeLine ∧ nx (mset M4 c (.dc (setK s k z)))) noX) noX else nx M2) noX) (fun _ => noX)) (M : Mem) (h : I 0 M) : dcW ok g t dk dv env q c xs M := by
  have : ∀ (r : List D) (i : Nat) M, r = xs.drop i → i ≤ xs.length → I i M → dcW ok g t dk dv env q c r M := by
    intro r
    induction r with
    | nil =>
      intro i M e hi hI
      have : i = xs.length := by
        have := congrArg List.length e
        rw [List.length_nil, List.length_drop] at this
        omega
      subst this
      exact h0 M hI
    | cons x r ih =>
      intro i M e hi hI
      have hlt : i < xs.length := by
        have := congrArg List.length e
        rw [List.length_cons, List.length_drop] at this
        omega
      rw [List.drop_eq_getElem_cons hlt] at e
      injection e with e1 e2
      exact hs i x M (by rw [e1]; exact List.getElem?_eq_getElem hlt) hI _ fun M' h' => ih (i + 1) M' e2 hlt h'
  exact this xs 0 M rfl (Nat.zero_le _) h
end
section
variable {M : Mem} {q : QD}
theorem eq_strA {i j : Str} (w : q (.bl (decide (i = j))) M) : rdEq (.str i) (.str j) M q := .inr ⟨i, j, rfl, rfl, w⟩
end
end DL
set_option maxRecDepth 100000
set_option maxHeartbeats 4000000
namespace DL
open PySem PySem.Spec PyProof.Rows L2
def rSortedSQ (K : PySem.W.Frag) : List V → Hp → VK → Prop := fun vs H Q => ∃ (a : Addr) (xs : List Str), vs = [V.ref a] ∧ (SqL K H a (xs.map V.str) ∨ SqT K H a (xs.map V.str)) ∧ xs.length < 64 ∧
  ∀ (ys : List Str) (p : Addr), ys.Perm xs → sortedS ys = true → H p = none → Q (.ref p) (upd H p (.lst (ys.map V.str)))
theorem sorted_strsQ {prog : Program} {w : World} {A : Around} {E : Value → Shared → Prop} {s : Shared} {l : Addr} {T : String} {o : Obj} {vs : List Value} {n : Nat} {ss : List Str} {Q : Value → Shared → Prop}
    (hT : T = "list" ∨ T = "tuple") (ho : s.heap.get? l = some o) (hc : o.cls = .type T) (hd : o.data = .seq vs.toArray n) (hS : StrsAre vs ss) (h64 : vs.length < 64)
    (h : ∀ (h1 : Heap), (∀ b o, s.heap.get? b = some o → h1.get? b = some o) → ∀ (h' : Heap) (d : Addr) (out : List Value) (ss' : List Str), StrsAre out ss' → ss'.Perm ss → sortedS ss' = true → (∀ b o, h1.get? b = some o → h'.get? b = some o) → h1.objs.size ≤ d → (∃ e, h'.get? d = some (seqObj "list" out.toArray e)) → Q (.ref d) { s with heap := h' }) :
    wpAny (model prog w) A (call (.builtin "sorted") [.ref l]) Q E s := by
  have hz : vs.length ≤ sizeLine := by rw [sizeLine_eq]; omega
  refine Calls.call_function_entry kind_sorted plain_sorted entry_sorted (args_sorted1 _) ?_
  unfold Builtin.«sorted»
  refine wpAny_bind (m := checkCount "sorted" 1 1 _) (wpAny_pure ?_)
  refine wpAny_bind (wpAny_collect_seq l hT ho hc hd (fun h1 keep => ?_) (by simpa using hz))
  refine wpAny_bind (wpAny_newList ?_ (by simpa using hz))
  have hoL : (h1.push (seqObj "list" vs.toArray 0)).get? h1.objs.size = some (seqObj "list" vs.toArray 0) := Heap.get?_push_size _ rfl
  show wpAny _ _ _ _ _ { s with heap := h1.push (seqObj "list" vs.toArray 0) }
  refine wpAny_bind (wpAny_holding (wpAny_call_entry slot_list_sort ⟨_, hoL, rfl⟩ entry_list_sort
    (list_sort_treeK strKind_oneLt hoL hS.keysOf (fun v₁ v₂ rest e => keyKind_strs (by rw [← e]; exact hS)) h64 fun st' hp hs => ?_) (args_list_sort _)))
  obtain ⟨ys, g1, g2, g3⟩ := sorted_out_str hS hp hs
  obtain ⟨ep, he'⟩ := PyProof.Rows.sortedHeap_at (vs := vs) (out := (arrOf st').map (·.2)) hoL
  refine ⟨.none, rfl, ?_⟩
  refine wpAny_pure ⟨_, rfl, h h1 keep _ _ ((arrOf st').map (·.2)).toList ys g1 g2 g3 (fun b u hu => ?_) (Nat.le_refl _) ⟨ep, by rw [Array.toArray_toList]; exact he'⟩⟩
  have hb := Heap.lt_size hu
  have hb2 : b < (h1.push (seqObj "list" vs.toArray 0)).objs.size := by
    have e : (h1.push (seqObj "list" vs.toArray 0)).objs.size = h1.objs.size + 1 := Heap.size_push ..
    exact Nat.lt_of_lt_of_le hb (by rw [e]; exact Nat.le_succ _)
  rw [PyProof.Rows.sortedHeap_old (Nat.ne_of_lt hb) hb2]
  exact Heap.get?_push_of_some _ hu
section
variable {X : Cx} {W : WX}
theorem cr_sortedSQ : CallR X (.builtin "sorted") (rSortedSQ X.K) := by
  intro pins s σ H vs us Q I r h
  obtain ⟨a, xs, rfl, hs, h64, q⟩ := h
  rw [Vals.ref1 r]
  have fin : ∀ (its : List Value) (T : String) (o : Obj) (n : Nat), Vals (xs.map V.str) its → T = "list" ∨ T = "tuple" → s.heap.get? a = some o → o.cls = .type T → o.data = .seq its.toArray n → wpAny (model X.prog X.w) X.A (call (.builtin "sorted") [.ref a]) (EP X pins σ Q) X.xe s := by
    intro its T o n rv hT ho hc hd
    have hlen0 := rv.length
    rw [List.length_map] at hlen0
    refine sorted_strsQ hT ho hc hd rv.strs (by rw [← hlen0]; exact h64) fun hh1 keep h' d out ys h1 h2 h3 kp hd2 ⟨ep, he'⟩ => ?_
    have I1 : Inv X pins σ H { s with heap := hh1 } := I.kept (t' := s.toks) keep
    have hlen : (ys.map V.str).length ≤ sizeLine := by rw [List.length_map, h2.length_eq, sizeLine_eq]; omega
    exact ⟨.ref d, upd H d (.lst (ys.map V.str)), I1.laid (t' := s.toks) kp hd2 ⟨hlen, out, ep, vals_of_strs h1, he'⟩, rfl, q ys _ h2 h3 (I1.hok.fresh hd2)⟩
  rcases hs with hs | hs
  · obtain ⟨its, rv, pl, _⟩ := I.list hs
    obtain ⟨o, ho, hc, n, hd⟩ := pl.isList
    exact fin its "list" o n rv (.inl rfl) ho hc hd
  · obtain ⟨its, rv, ⟨o, ho, hc, n, hd⟩, _⟩ := I.tuple hs
    exact fin its "tuple" o n rv (.inr rfl) ho hc hd
def rdSortS : RDL := fun ds M q => ∃ (d : D) (xs : List D) (ss : List Str), ds = [d] ∧ seqOf M d = some xs ∧ strsD xs = some ss ∧ ss.length < 64 ∧ ∀ ys : List Str, ys.Perm ss → sortedS ys = true → q (.lst (ys.map D.str)) M
theorem cd_sortS : CallD X (.builtin "sorted") rdSortS := ⟨_, cr_sortedSQ, fun H0 H M xs ds q Q S r w k => by
  obtain ⟨d, ys, ss, rfl, e, es, h64, w⟩ := w
  obtain ⟨v, rfl, rv⟩ := dnl1 r
  obtain ⟨a, vs, rfl, hs, rs⟩ := S.seq rv e
  have := strs_dn rs es
  subst this
  exact ⟨a, ss, rfl, hs, h64, fun ys p h1 h2 hp => k.newL S (dn_strs ys) (w ys h1 h2) p hp⟩⟩
end
end DL
set_option maxRecDepth 100000
set_option maxHeartbeats 4000000
namespace DL
open PySem PySem.Spec PyProof.Rows L2
theorem e0_of {K : PySem.W.Frag} {P : Program} {w : World} {H : Hp} {outer : List Env} {s : Shared} {u : Value} {s' : Shared} (h : L2.CX P w outer H s E0 u s') : False := by
  obtain ⟨_, _, _, _, _, _, _, _, _, _, _, _, z⟩ := h
  exact z
section
variable {X : Cx} {W : WX}
/-- the call of a special method, around A with the same frames -/
theorem run_own {k n : Nat} {f : Addr} {fd : FuncData} {ps : List Str} {sd : SpD} {pins : List (Addr × Obj)} {σ : L2.St} {H : Hp} {s : Shared} {us : List Value} {vs : List V} {A : Around} {E : Value → Shared → Prop} {Q : VK} (F : FnOk X.prog X.w X.K X.mg X.base (L2.CX X.prog X.w) k f fd ps (spOf X.K n sd)) (hr : Room k A) (hb : Binds X.K fd ps [])
    (hfr : A.frames = X.A.frames) (I : Inv X pins σ H s) (r : Vals vs us) (h : spOf X.K n sd vs H Q E0) : wpAny (model X.prog X.w) A (call (.ref f) us) (EP X pins σ Q) E s := by
  have e0 : Env0 X.prog X.w X.K X.mg X.base A X.stack s H := by
    have e := I.env0
    exact ⟨by rw [hfr]; exact e.frames, e.mod, e.bs, e.bsz, e.funs, e.frf, e.hok, e.bare⟩
  have hl : (us ++ []).length = ps.length := by
    rw [List.append_nil, ← r.length]; exact F.len _ _ _ _ h
  have hbb := hb s us I.kIn hl
  rw [List.append_nil] at hbb
  refine wpAny_call (codeAny_mono (F.run A X.stack s H ⟨us, []⟩ us vs Q E0 hr e0 hbb r h) fun res s' out => ?_)
  cases res with
  | error e => exact (e0_of (K := X.K) out).elim
  | ok fl =>
    cases fl with
    | ret u => exact I.after out
    | next => exact out.elim
    | brk => exact out.elim
    | cont => exact out.elim
/-- x in o, x not in o: own __contains__, True or False -/
def rdInO (neg : Bool) (C : Addr) (sd : SpD) : RD2 := fun x o M q => ∃ fs, fsOf M C o = some fs ∧ sd [o, x] M (fun v M1 => ∃ b, v = .bl b ∧ q (.bl (if neg then !b else b)) M1) noX
theorem opd_inO {k : Nat} {C : Addr} {sd : SpD} (F : Mok X.prog X.w X.K X.mg X.base C "__contains__" k 2 sd) (hr : Room k X.A) : OpD X (compareOp .In) (rdInO false C sd) := by
  obtain ⟨c, f, fd, ps, hm, hfn, hb, F⟩ := F
  refine ⟨fun x y H Q => ∃ a dx fs, y = .ref a ∧ H a = some (.ins C dx fs) ∧ spOf X.K 2 sd [y, x] H (fun v H' => ∃ b, v = .bl b ∧ Q (.bl b) H') E0, fun pins s σ H x y v u Q I rx ry h => ?_, fun H0 H M x y dx dy q Q S hx hy w k => ?_⟩
  · obtain ⟨a, dx, fs, rfl, ea, h⟩ := h
    obtain rfl : u = Value.ref a := ry
    obtain ⟨mA, J, _⟩ := ins_get I.hok ea
    obtain ⟨od, J, _⟩ := J.look
    obtain ⟨m, hF⟩ := I.fr
    refine PySem.W.in_K hF I.ok.mod.kin J hm.at_ hm.fn (wpAny_mono (run_own F hr hb rfl I (.cons (show RelV (.ref a) (.ref a) from rfl) (.cons rx .nil)) h) (fun r s' ⟨v', H', I', rv, b, ev, q⟩ => ?_) fun _ _ z => z)
    subst ev
    cases rv
    exact wpAny_truthy_bool ⟨.bl b, H', I', rfl, q⟩
  · obtain ⟨fs, ef, w⟩ := w
    obtain ⟨a, dd, fvs, rfl, q1, r⟩ := S.obj hy ef
    exact ⟨a, dd, fvs, rfl, q1, [dy, dx], M, _, noX, H0, rfl, .cons hy (.cons hx .nil), S, w, fun v d H0' H' M' e S' rv ⟨b, ed, z⟩ => by subst ed; exact ⟨b, rv.inv_bl, k _ _ H0' H' M' e S' (.bl b) z⟩, kx0⟩
theorem opd_niO {k : Nat} {C : Addr} {sd : SpD} (F : Mok X.prog X.w X.K X.mg X.base C "__contains__" k 2 sd) (hr : Room k X.A) : OpD X (compareOp .NotIn) (rdInO true C sd) := by
  obtain ⟨c, f, fd, ps, hm, hfn, hb, F⟩ := F
  refine ⟨fun x y H Q => ∃ a dx fs, y = .ref a ∧ H a = some (.ins C dx fs) ∧ spOf X.K 2 sd [y, x] H (fun v H' => ∃ b, v = .bl b ∧ Q (.bl (!b)) H') E0, fun pins s σ H x y v u Q I rx ry h => ?_, fun H0 H M x y dx dy q Q S hx hy w k => ?_⟩
  · obtain ⟨a, dx, fs, rfl, ea, h⟩ := h
    obtain rfl : u = Value.ref a := ry
    obtain ⟨mA, J, _⟩ := ins_get I.hok ea
    obtain ⟨od, J, _⟩ := J.look
    obtain ⟨m, hF⟩ := I.fr
    refine PySem.W.notIn_K hF I.ok.mod.kin J hm.at_ hm.fn (wpAny_mono (run_own F hr hb rfl I (.cons (show RelV (.ref a) (.ref a) from rfl) (.cons rx .nil)) h) (fun r s' ⟨v', H', I', rv, b, ev, q⟩ => ?_) fun _ _ z => z)
    subst ev
    cases rv
    exact wpAny_truthy_bool ⟨.bl (!b), H', I', rfl, q⟩
  · obtain ⟨fs, ef, w⟩ := w
    obtain ⟨a, dd, fvs, rfl, q1, r⟩ := S.obj hy ef
    exact ⟨a, dd, fvs, rfl, q1, [dy, dx], M, _, noX, H0, rfl, .cons hy (.cons hx .nil), S, w, fun v d H0' H' M' e S' rv ⟨b, ed, z⟩ => by subst ed; exact ⟨b, rv.inv_bl, k _ _ H0' H' M' e S' (.bl (!b)) z⟩, kx0⟩
structure OwnI (K : PySem.W.Frag) (C : Addr) : Prop where
  cl : Cls K C
  ha : PySem.W.findIn K (.ref C) "__class__" = some (some (.builtin "object.__class__"))
  hn : PySem.W.specialIn K (.builtin "object.__class__") "__get__" = some (some (.builtin "getset_descriptor.__get__"))
  htk : PySem.W.takesIn K (.builtin "object.__class__") = some true
  hm : PySem.W.mroIn K C (.type "object") = some true
  no : ∀ t : String, t ∈ ["NoneType", "bool", "int", "str", "list", "tuple", "dict"] → PySem.W.kitOne K (.type t) (.ref C) = some false
theorem tyD_in {M : Mem} {d : D} {t : String} (h : tyD M d = some t) : t ∈ ["NoneType", "bool", "int", "str", "list", "tuple", "dict"] := by
  cases d with
  | cel c =>
    have e' : (match M c with | some (.ls _) => some "list" | some (.dc _) => some "dict" | _ => none) = some t := h
    split at e'
    · cases e'; decide
    · cases e'; decide
    · cases e'
  | ty n => cases h
  | ins C f v => cases h
  | _ => cases h; decide
@[reducible] def rdIsiC (C : Addr) : RD1 := fun d M q => ((∃ fs, fsOf M C d = some fs) ∧ q (.bl true) M) ∨ ((∃ t, tyD M d = some t) ∧ q (.bl false) M)
@[reducible] def dIsiC (C : Addr) (de : DE) : DE := fun env M q E => de env M (fun d M1 => rdIsiC C d M1 q) E
theorem pd_isiC {e : Expr} {y : Str} {C : Addr} {p p' pos : Pos} {de : DE} (he : PD X W e de) (o : OwnI X.K C) (hm : X.mg "isinstance" = none) (hmy : X.mg y = some (.ref C)) (hg : Gl X "isinstance" := by rfl) (hgy : Gl X y := by rfl) (hdy : (y == ("__debug__" : Str)) = false := by decide)
    (hs : starEach [e, .Name y p'] X.env = (false, eval e X.env) :: starEach [.Name y p'] X.env := by rfl) (hpl : (backTo pos (starEach [.Name y p'] X.env)).any (·.1) = false := by rfl) (hv2 : bootBuiltins "isinstance" = some (.builtin "isinstance") := by decide +kernel) : PD X W (.Call (.Name "isinstance" p) [e, .Name y p'] [] pos) (dIsiC C de) := by
  have h2 : AD X W [e, .Name y p'] (dCons de (dCons (dC (.cel C)) dNil)) := ad_cons he (ad_cons (pd_of_tC (pe_glob hgy hmy (show RelV (.ref C) (.ref C) from rfl) hdy) fun _ => .cel C) ad_nil (by rfl)) hs
  refine peImp (pe_callB (x := "isinstance") call_isi hg hm hv2 h2 (by decide) (by decide) hs hpl) fun σ H Q ⟨env, M, q, E, H0, so, S, h, k, kx⟩ => ?_
  refine ⟨env, M, fun ds M1 => (match ds with | [d, .cel m] => m = C ∧ rdIsiC C d M1 q | _ => False), E, H0, so, S, ?_, ?_, kx⟩
  · show de env M (fun d M1 => C = C ∧ rdIsiC C d M1 q) E
    rw [show (fun d M1 => C = C ∧ rdIsiC C d M1 q) = (fun d M1 => rdIsiC C d M1 q) from by funext d M1; exact propext ⟨fun h => h.2, fun h => ⟨rfl, h⟩⟩]
    exact h
  · intro vs ds H1 H' M1 e1 S1 rs w
    have w' : ∃ d, ds = [d, .cel C] ∧ rdIsiC C d M1 q := by
      revert w
      split
      · rintro ⟨rfl, w⟩; exact ⟨_, rfl, w⟩
      · exact fun z => z.elim
    clear w
    obtain ⟨d, ed, w⟩ := w'
    subst ed
    obtain ⟨v, u, rfl, rv, ru⟩ := dnl2 rs
    cases ru
    rcases w with ⟨⟨fs, ef⟩, w⟩ | ⟨⟨t, et⟩, w⟩
    · obtain ⟨a, dd, fvs, rfl, q1, r⟩ := S1.obj rv ef
      exact ⟨.ref a, .ref C, .ref C, .ref C, true, rfl, .own C, .base (.ins q1 o.cl o.ha o.hn o.htk o.hm), by unfold PySem.W.kitOne; rw [if_pos (by simp)], k _ _ H1 H' M1 e1 S1 (.bl true) w⟩
    · exact ⟨v, .ref C, .type t, .ref C, false, rfl, .own C, S1.tyX rv et, o.no t (tyD_in et), k _ _ H1 H' M1 e1 S1 (.bl false) w⟩
def MokP (P : Program) (w : World) (K : PySem.W.Frag) (mg : Str → Option Value) (base : Heap) (C : Addr) (m : Str) (k n : Nat) (ks : List Str) (pm : List Nat) (sd : SpD) : Prop :=
  Cls K C ∧ ∃ (f : Addr) (fd : FuncData) (ps : List Str), Meth K C m f ∧ KwPm fd ps ks pm ∧ FnOk P w K mg base (L2.CX P w) k f fd ps (spOf K n sd)
theorem run_fnP {k : Nat} {f : Addr} {fd : FuncData} {ps ks : List Str} {pm : List Nat} {sp : Sp} {pins : List (Addr × Obj)} {σ : L2.St} {H : Hp} {s : Shared} {Q : VK} {u : Value} {ws : List Value} {v : V} {zs : List V} (F : FnOk X.prog X.w X.K X.mg X.base (L2.CX X.prog X.w) k f fd ps sp) (hr : Room k X.A) (hb : KwPm fd ps ks pm)
    (tk : Takes X W) (I : Inv X pins σ H s) (rv : RelV v u) (r : Vals zs ws) (l2 : zs.length = ks.length) (h : sp (v :: permL pm zs) H Q (WE W σ)) : wpAny (model X.prog X.w) X.A (call (.ref f) [u] (ks.zip ws)) (EP X pins σ Q) X.xe s := by
  refine wpAny_call (codeAny_mono (F.run X.A X.stack s H ⟨[u], ks.zip ws⟩ (u :: permL pm ws) (v :: permL pm zs) Q (WE W σ) hr I.env0 (hb s [u] ws rfl (by rw [← r.length]; exact l2)) (.cons rv (permL_vals r pm)) h) fun r s' hq => ?_)
  cases r with
  | error e => exact passAt tk σ pins H s e s' I hq
  | ok fl =>
    cases fl with
    | ret u => exact I.after hq
    | next => exact False.elim hq
    | brk => exact False.elim hq
    | cont => exact False.elim hq
@[reducible] def dMethP (C : Addr) (m : Str) (n : Nat) (ks : List Str) (pm : List Nat) (sd : SpD) (do_ : DE) (da : DA) : DE := fun env M q E => do_ env M (fun o M1 => ∃ fs, fsOf M1 C o = some fs ∧ fs.lookup m = none ∧ da env M1 (fun ds M2 => ds.length = ks.length ∧ (permL pm ds).length + 1 = n ∧ sd (o :: permL pm ds) M2 q E) E) E
theorem pd_methP {k n : Nat} {C : Addr} {m : Str} {ks : List Str} {pm : List Nat} {sd : SpD} {o : Expr} {kws : List Keyword} {do_ : DE} {da : DA} {apos pos : Pos} {pl : Sem Bool} (F : MokP X.prog X.w X.K X.mg X.base C m k n ks pm sd) (hr : Room k X.A) (tk : Takes X W) (ho : PD X W o do_) (ha : KD X W kws da)
    (hall : (backToKw pos (keywordEach kws X.env)).all (·.1.isSome) = true := by rfl) (hks : (backToKw pos (keywordEach kws X.env)).filterMap (·.1) = ks := by rfl)
    (hpl : ((backTo pos (starEach [] X.env)).any (·.1) || (backToKw pos (keywordEach kws X.env)).any (·.1.isNone)) = false := by rfl)
    (ht : eval (.Call (.Attribute o m apos) [] kws pos) X.env = (do
      let ov ← eval o X.env
      standAt apos.atName
      let (f, first) ← holding [ov] (getMethod ov m pl)
      callWith pos f first (backTo pos (starEach [] X.env)) (backToKw pos (keywordEach kws X.env))) := by rfl) : PD X W (.Call (.Attribute o m apos) [] kws pos) (dMethP C m n ks pm sd do_ da) := by
  obtain ⟨c, f, fd, ps, hm, hb, F⟩ := F
  constructor
  intro pins s σ H Q I ⟨env, M, q, E, H0, so, S, h, kq, kx⟩
  refine PySem.W.methodCall_KW (pl := pl) (wpAny_mono (PE.run ho pins s σ H (fun x H1 => ∃ a dx fs, x = .ref a ∧ H1 a = some (.ins C dx fs) ∧ fs.lookup m = none ∧ liftA X.K W da σ H1 fun vs H2 => vs.length = ks.length ∧ spOf X.K n sd (x :: permL pm vs) H2 Q (WE W σ)) I
    (goE so S h kx fun x dx H1 H' M1 e1 so1 S1 rx ⟨fs, ef, el, w⟩ kx1 => ?_)) (fun u s1 ⟨x, H1, I1, rx, a, dx, fs, ex, ea, l, q1⟩ => ?_) fun _ _ z => z) ht
  · obtain ⟨a, dd, fvs, rfl, q1, r⟩ := S1.obj rx ef
    exact ⟨a, dd, fvs, rfl, q1, r.no el, goA so1 S1 w kx1 fun vs ds H2 H'' M2 e2 so2 S2 rs ⟨hl, hn, w2⟩ kx2 => ⟨by rw [rs.length]; exact hl, dx :: permL pm ds, M2, q, E, H2, hn, .cons (rx.mono e2) (permL_dn rs pm), S2, w2, kq.mono (e1.trans e2), kx2⟩⟩
  · subst ex
    obtain rfl : u = Value.ref a := rx
    refine getmeth_ok I1 ea c hm l ?_
    refine PySem.W.callWith_KW0 (first := [.ref a]) (h₀ := X.base) I.ok.mod.kin hm.kp hall (wpAny_mono (PK.run (t := liftA X.K W da) ha pos pins s1 σ H1 _ I1 q1) (fun ws s2 ⟨vs, H2, I2, r, hl, q2⟩ => ⟨I2.kIn, ?_⟩) fun _ _ z => z) hpl
    rw [hks]
    exact run_fnP F hr hb tk I2 (show RelV (.ref a) (.ref a) from rfl) r hl q2
end
end DL
set_option maxRecDepth 100000
namespace R
open PySem PySem.Spec PyProof.Rows L2 DL
def letB (c : Nat) : Bool := decide (97 ≤ c ∧ c ≤ 122)
def signB (c : Nat) : Bool := decide (97 ≤ c ∧ c ≤ 122 ∨ 48 ≤ c ∧ c ≤ 57)
def nameL : List Nat → Bool
  | [] => false
  | c :: r => letB c && r.all signB && decide (r.length ≤ 7)
/-- a name: one to eight signs, a letter first -/
def nameB (x : Str) : Bool := nameL x.cps.toList
structure Host where
  name : Str
  rack : Str
  marks : List Int
  deriving DecidableEq
abbrev intsT (ms : List Int) : D := .tup (ms.map D.int)
abbrev strsT (xs : List Str) : D := .tup (xs.map D.str)
abbrev strsL (xs : List Str) : D := .lst (xs.map D.str)
abbrev hostD (h : Host) : D := .tup [.str h.name, .str h.rack, intsT h.marks]
abbrev crewD (hs : List Host) : D := .tup (hs.map hostD)
structure MarksOk (size : Int) (ms : List Int) : Prop where
  ne : 1 ≤ ms.length
  few : ms.length ≤ 16
  asc : ms.Pairwise (· < ·)
  inn : ∀ m ∈ ms, 0 ≤ m ∧ m < size
/-- a host that may stand behind the others -/
structure NextOk (size : Int) (hs : List Host) (h : Host) : Prop where
  name : nameB h.name = true
  rack : nameB h.rack = true
  fresh : ∀ o ∈ hs, o.name ≠ h.name
  marks : MarksOk size h.marks
  free : ∀ o ∈ hs, ∀ m ∈ h.marks, m ∉ o.marks
structure CrewOk (size : Int) (hs : List Host) : Prop where
  ne : hs ≠ []
  few : hs.length ≤ 12
  each : ∀ (i : Nat) h, hs[i]? = some h → NextOk size (hs.take i) h
structure Rule where
  wide : Int
  spread : Str
  write : Int
  read : Int
  pend : Str
  deriving DecidableEq
structure RuleOk (r : Rule) : Prop where
  w : 1 ≤ r.wide ∧ r.wide ≤ 5
  s : r.spread = "hosts" ∨ r.spread = "racks"
  p : 1 ≤ r.write ∧ r.write ≤ r.wide
  g : 1 ≤ r.read ∧ r.read ≤ r.wide
  m : r.pend = "plain" ∨ r.pend = "with"
def frameL (size : Int) (r : Rule) (hs : List Host) : List D := [.int size, .int r.wide, .str r.spread, .int r.write, .int r.read, .str r.pend, crewD hs]
def fNames : List Str := ["_points", "_factor", "_spread", "_write", "_read_number", "_pending", "_hosts"]
def fieldsD (size : Int) (r : Rule) (hs : List Host) : List (Str × D) := [("_points", .int size), ("_factor", .int r.wide), ("_spread", .str r.spread), ("_write", .int r.write), ("_read_number", .int r.read), ("_pending", .str r.pend), ("_hosts", crewD hs)]
def ringD (C : Addr) (size : Int) (r : Rule) (hs : List Host) : D := .ins C fNames (frameL size r hs)
/-- the way from a point to the next of these marks -/
def IsWay (size p : Int) (ms : List Int) (m : Int) : Prop := m ∈ ms.map (fun k => (k - p) % size) ∧ ∀ y ∈ ms.map (fun k => (k - p) % size), m ≤ y
/-- the names by their ways -/
def WalkOf (size p : Int) (hs : List Host) (ns : List Str) : Prop := ∃ ws : List (Int × Str), ws.Pairwise (fun a b => a.1 ≤ b.1) ∧ ns = ws.map (·.2) ∧ (ws.map (·.2)).Perm (hs.map (·.name)) ∧ ∀ a ∈ ws, ∃ h ∈ hs, h.name = a.2 ∧ IsWay size p h.marks a.1
def rackOf (hs : List Host) (x : Str) : Str := ((hs.find? fun h => decide (h.name = x)).map (·.rack)).getD x
/-- firsts, others: by racks seen -/
def splitR (hs : List Host) : List Str → List Str → List Str → List Str → List Str × List Str
  | _, fs, os, [] => (fs, os)
  | seen, fs, os, x :: r => if rackOf hs x ∈ seen then splitR hs seen fs (os ++ [x]) r else splitR hs (seen ++ [rackOf hs x]) (fs ++ [x]) os r
def newRacks (hs : List Host) (ns : List Str) : List Str := (splitR hs [] [] [] ns).1 ++ (splitR hs [] [] [] ns).2
def keepersOf (r : Rule) (hs : List Host) (ns : List Str) : List Str := (if r.spread = "racks" then newRacks hs ns else ns).take r.wide.toNat
/-- the generator's state -/
def Kg (M : Mem) (k : Addr) (g : Int) : Prop := ∃ a b c : Int, M k = some (.ls [.int a, .int b, .int c]) ∧ 0 ≤ b ∧ b < 2147483648 ∧ 0 ≤ c ∧ c ≤ g
def sd_is_whole (C : Addr) : SpD := fun ds M q _ => ∃ i : Int, ds = [.int i] ∧ q (.bl true) M
def sd_is_from_to (C : Addr) : SpD := fun ds M q _ => ∃ v lo hi : Int, ds = [.int v, .int lo, .int hi] ∧ q (.bl (decide (lo ≤ v ∧ v ≤ hi))) M
def sd_is_word_of (C : Addr) : SpD := fun ds M q _ => (∃ (x : Str) (ws : List Str), ds = [.str x, strsT ws] ∧ q (.bl (decide (x ∈ ws))) M) ∨ ∃ (d : D) (ws : List Str) (t : String), ds = [d, strsT ws] ∧ tyD M d = some t ∧ t ≠ "str" ∧ q (.bl false) M
def sd_is_name (C : Addr) : SpD := fun ds M q _ => ∃ x : Str, ds = [.str x] ∧ nameB x = true ∧ q (.bl true) M
def sd_is_ascending (C : Addr) : SpD := fun ds M q _ => ∃ ms : List Int, ds = [intsT ms] ∧ ms.length ≤ 16 ∧ ms.Pairwise (· < ·) ∧ q (.bl true) M
def sd_are_free_marks (C : Addr) : SpD := fun ds M q _ => ∃ (ms : List Int) (size : Int) (hs : List Host), ds = [intsT ms, .int size, crewD hs] ∧ MarksOk size ms ∧ hs.length ≤ 12 ∧ (∀ o ∈ hs, ∀ m ∈ ms, m ∉ o.marks) ∧ q (.bl true) M
def sd_is_free_name (C : Addr) : SpD := fun ds M q _ => ∃ (x : Str) (hs : List Host), ds = [.str x, crewD hs] ∧ nameB x = true ∧ hs.length ≤ 12 ∧ (∀ o ∈ hs, nameB o.name = true ∧ o.name ≠ x) ∧ q (.bl true) M
def sd_is_next_host (C : Addr) : SpD := fun ds M q _ => ∃ (h : Host) (size : Int) (hs : List Host), ds = [hostD h, .int size, crewD hs] ∧ NextOk size hs h ∧ hs.length ≤ 12 ∧ (∀ o ∈ hs, nameB o.name = true) ∧ q (.bl true) M
def sd_check_hosts (C : Addr) : SpD := fun ds M q _ => ∃ (size : Int) (hs : List Host), ds = [.int size, crewD hs] ∧ CrewOk size hs ∧ q .non M
def sd_Ring___init__ (C : Addr) : SpD := fun ds M q _ => ∃ (c : Addr) (size : Int) (r : Rule) (hs : List Host), ds = .cel c :: frameL size r hs ∧ M c = some (.ob C []) ∧ 1 ≤ size ∧ size ≤ 1000000000000000000 ∧ RuleOk r ∧ CrewOk size hs ∧ q .non (mset M c (.ob C (fieldsD size r hs)))
def sd_Ring__way (C : Addr) : SpD := fun ds M q _ => ∃ (size : Int) (r : Rule) (hs : List Host) (p : Int) (ms : List Int), ds = [ringD C size r hs, .int p, intsT ms] ∧ 0 < size ∧ 1 ≤ ms.length ∧ ms.length ≤ 16 ∧ ∀ m, IsWay size p ms m → q (.int m) M
def sd_Ring_walk (C : Addr) : SpD := fun ds M q _ => ∃ (size : Int) (r : Rule) (hs : List Host) (p : Int), ds = [ringD C size r hs, .int p] ∧ CrewOk size hs ∧ 0 ≤ p ∧ p < size ∧ ∀ ns, WalkOf size p hs ns → q (strsT ns) M
def sd_new_racks_first (C : Addr) : SpD := fun ds M q _ => ∃ (size : Int) (r : Rule) (hs : List Host) (ns : List Str), ds = [ringD C size r hs, strsT ns] ∧ CrewOk size hs ∧ ns.length ≤ 12 ∧ (∀ x ∈ ns, x ∈ hs.map (·.name)) ∧ ∀ M', Kept M M' → q (strsT (newRacks hs ns)) M'
def sd_Ring_keepers (C : Addr) : SpD := fun ds M q _ => ∃ (size : Int) (r : Rule) (hs : List Host) (p : Int), ds = [ringD C size r hs, .int p] ∧ CrewOk size hs ∧ RuleOk r ∧ 0 ≤ p ∧ p < size ∧ ∀ ns M', WalkOf size p hs ns → Kept M M' → q (strsT (keepersOf r hs ns)) M'
/-- the names of a rack that none ahead is of, among the first n -/
def firstsN (hs : List Host) (ns : List Str) : Nat → List Str
  | 0 => []
  | n + 1 => match ns[n]? with
    | some x => if rackOf hs x ∈ (ns.take n).map (rackOf hs) then firstsN hs ns n else firstsN hs ns n ++ [x]
    | none => firstsN hs ns n
def keepL (r : Rule) (hs : List Host) (ns : List Str) : List Str := if r.spread = "hosts" then ns.take r.wide.toNat else
  ((firstsN hs ns ns.length).take r.wide.toNat ++ ns.filter fun x => !decide (x ∈ (firstsN hs ns ns.length).take r.wide.toNat)).take r.wide.toNat
def sd_Ring_points (C : Addr) : SpD := fun ds M q _ => ∃ (size : Int) (r : Rule) (hs : List Host), ds = [ringD C size r hs] ∧ q (.int size) M
def sd_Ring_factor (C : Addr) : SpD := fun ds M q _ => ∃ (size : Int) (r : Rule) (hs : List Host), ds = [ringD C size r hs] ∧ q (.int r.wide) M
def sd_Ring_spread (C : Addr) : SpD := fun ds M q _ => ∃ (size : Int) (r : Rule) (hs : List Host), ds = [ringD C size r hs] ∧ q (.str r.spread) M
def sd_Ring_hosts (C : Addr) : SpD := fun ds M q _ => ∃ (size : Int) (r : Rule) (hs : List Host), ds = [ringD C size r hs] ∧ q (crewD hs) M
def sd_check_point (C : Addr) : SpD := fun ds M q _ => ∃ (size : Int) (r : Rule) (hs : List Host) (p : Int), ds = [ringD C size r hs, .int p] ∧ 0 ≤ p ∧ p < size ∧ q .non M
def sd_keepers_in (C : Addr) : SpD := fun ds M q _ => ∃ (size : Int) (r : Rule) (hs : List Host) (ns : List Str), ds = [ringD C size r hs, strsT ns] ∧ CrewOk size hs ∧ RuleOk r ∧ ns.length ≤ 12 ∧ (∀ x ∈ ns, x ∈ hs.map (·.name)) ∧ ∀ M', Kept M M' → q (strsT (keepersOf r hs ns)) M'
def optD : Option Int → D
  | some n => .int n
  | none => .non
def numS (i : Int) : Str := Str.ofString (toString i)
/-- a host as it stands in a text -/
structure HostT (size : Int) (h : Host) : Prop where
  name : nameB h.name = true
  rack : nameB h.rack = true
  marks : MarksOk size h.marks
def sd_Ring_names (C : Addr) : SpD := fun ds M q _ => ∃ (size : Int) (r : Rule) (hs : List Host), ds = [ringD C size r hs] ∧ hs.length ≤ 12 ∧ ∀ ys : List Str, ys.Perm (hs.map (·.name)) → PyProof.Rows.sortedS ys = true → q (strsT ys) M
def sd_Ring___contains__ (C : Addr) : SpD := fun ds M q _ => ∃ (size : Int) (r : Rule) (hs : List Host) (d : D), ds = [ringD C size r hs, d] ∧ hs.length ≤ 12 ∧ ((∃ x : Str, d = .str x ∧ q (.bl (decide (x ∈ hs.map (·.name)))) M) ∨ ∃ t, tyD M d = some t ∧ t ≠ "str" ∧ q (.bl false) M)
def sd_check_name (C : Addr) : SpD := fun ds M q _ => ∃ (size : Int) (r : Rule) (hs : List Host) (x : Str), ds = [ringD C size r hs, .str x] ∧ hs.length ≤ 12 ∧ x ∈ hs.map (·.name) ∧ q .non M
def sd_Ring__with_hosts (C : Addr) : SpD := fun ds M q _ => ∃ (size : Int) (r : Rule) (hs hs' : List Host), ds = [ringD C size r hs, crewD hs'] ∧ 1 ≤ size ∧ size ≤ 1000000000000000000 ∧ RuleOk r ∧ CrewOk size hs' ∧ ∀ M', Kept M M' → q (ringD C size r hs') M'
def sd_Ring_joined (C : Addr) : SpD := fun ds M q _ => ∃ (size : Int) (r : Rule) (hs : List Host) (x b : Str) (ms : List Int), ds = [ringD C size r hs, .str x, .str b, intsT ms] ∧ 1 ≤ size ∧ size ≤ 1000000000000000000 ∧ RuleOk r ∧ CrewOk size hs ∧ hs.length ≤ 11 ∧ NextOk size hs ⟨x, b, ms⟩ ∧ ∀ M', Kept M M' → q (ringD C size r (hs ++ [⟨x, b, ms⟩])) M'
def sd_Ring_left (C : Addr) : SpD := fun ds M q _ => ∃ (size : Int) (r : Rule) (hs : List Host) (x : Str), ds = [ringD C size r hs, .str x] ∧ 1 ≤ size ∧ size ≤ 1000000000000000000 ∧ RuleOk r ∧ CrewOk size hs ∧ x ∈ hs.map (·.name) ∧ 2 ≤ hs.length ∧ ∀ M', Kept M M' → q (ringD C size r (hs.filter fun h => !decide (h.name = x))) M'
end R
set_option maxRecDepth 100000
namespace R
open PySem PySem.Spec PyProof.Rows L2 DL
abbrev N_is_ascending : List Str := ["row", "one", "other"]
def db_is_ascending (C : Addr) : DS :=
    (dRet (dCB rdAll (dCons (dLc (dZip (dCons (dVar 0) (dCons (dSl rdSl (dVar 0) (dPart (dC (.int 1))) dNo) dNil))) (gdTup 2 (gdCons (gdName 1) (gdCons (gdName 2) gdNil))) dYes (dOp rdLt (dVar 1) (dVar 2)) [1, 2]) dNil)))
abbrev N_is_whole : List Str := ["value"]
def db_is_whole (C : Addr) : DS :=
    (dRet (dAndV (dIsi "int" (dVar 0)) (dNotV (dIsi "bool" (dVar 0)))))
abbrev N_is_name : List Str := ["value", "sign"]
def db_is_name (C : Addr) : DS :=
    (dSeq (dIfS (dOr (dNot (dTru (dIsi "str" (dVar 0)))) (dNot (dTst (dChn rdLe rdLe (dC (.int 1)) (dCB rdLen (dCons (dVar 0) dNil)) (dC (.int 8)))))) (dRet (dC (.bl false))) dNext)
    (dRet (dAndV (dOp (rdIn false) (dOp rdIx (dVar 0) (dC (.int 0))) (dC (.str "abcdefghijklmnopqrstuvwxyz"))) (dCB rdAll (dCons (dLc (dIterS (dVar 0)) (gdName 1) dYes (dOp (rdIn false) (dVar 1) (dOp rdAdd (dC (.str "abcdefghijklmnopqrstuvwxyz")) (dC (.str "0123456789")))) [1]) dNil)))))
abbrev N_is_word_of : List Str := ["value", "words"]
def db_is_word_of (C : Addr) : DS :=
    (dRet (dAndV (dIsi "str" (dVar 0)) (dOp (rdIn false) (dVar 0) (dVar 1))))
abbrev N_Ring_hosts : List Str := ["self"]
def db_Ring_hosts (C : Addr) : DS :=
    (dRet (dFld C "_hosts" (dVar 0)))
abbrev N_Ring_factor : List Str := ["self"]
def db_Ring_factor (C : Addr) : DS :=
    (dRet (dFld C "_factor" (dVar 0)))
abbrev N_Ring_spread : List Str := ["self"]
def db_Ring_spread (C : Addr) : DS :=
    (dRet (dFld C "_spread" (dVar 0)))
abbrev N_Ring_points : List Str := ["self"]
def db_Ring_points (C : Addr) : DS :=
    (dRet (dFld C "_points" (dVar 0)))
abbrev N_Ring__way : List Str := ["self", "point", "marks", "mark"]
def db_Ring__way (C : Addr) : DS :=
    (dRet (dCB rdMinL (dCons (dLc (dIter (dVar 2)) (gdName 3) dYes (dOp rdMod (dOp rdSub (dVar 3) (dVar 1)) (dFld C "_points" (dVar 0))) [3]) dNil)))
abbrev N_is_from_to : List Str := ["value", "least", "most"]
def db_is_from_to (C : Addr) : DS :=
    (dRet (dAndV (dCall 1 (sd_is_whole C) (dCons (dVar 0) dNil)) (dChn rdLe rdLe (dVar 1) (dVar 0) (dVar 2))))
abbrev N_is_free_name : List Str := ["value", "hosts", "host"]
def db_is_free_name (C : Addr) : DS :=
    (dRet (dAndV (dCall 1 (sd_is_name C) (dCons (dVar 0) dNil)) (dNotV (dCB rdAny (dCons (dLc (dIter (dVar 1)) (gdName 2) dYes (dOp rdEq (dVar 0) (dOp rdIx (dVar 2) (dC (.int 0)))) [2]) dNil)))))
abbrev N_are_free_marks : List Str := ["value", "points", "hosts", "mark", "host"]
def db_are_free_marks (C : Addr) : DS :=
    (dSeq (dIfS (dOr (dNot (dTru (dIsi "tuple" (dVar 0)))) (dNot (dTst (dChn rdLe rdLe (dC (.int 1)) (dCB rdLen (dCons (dVar 0) dNil)) (dC (.int 16)))))) (dRet (dC (.bl false))) dNext)
    (dSeq (dIfS (dOr (dNot (dTru (dCB rdAll (dCons (dLc (dIter (dVar 0)) (gdName 3) dYes (dCall 3 (sd_is_from_to C) (dCons (dVar 3) (dCons (dC (.int 0)) (dCons (dOp rdSub (dVar 1) (dC (.int 1))) dNil)))) [3]) dNil)))) (dNot (dTru (dCall 1 (sd_is_ascending C) (dCons (dVar 0) dNil))))) (dRet (dC (.bl false))) dNext)
    (dRet (dNotV (dCB rdAny (dCons (dLc2 (dIter (dVar 2)) (gdName 4) dYes (dIter (dVar 0)) (gdName 3) dYes (dOp (rdIn false) (dVar 3) (dOp rdIx (dVar 4) (dC (.int 2)))) [4, 3] [3]) dNil))))))
abbrev N_new_racks_first : List Str := ["ring", "walk", "rack_of", "racks", "firsts", "others", "name", "rack", "_"]
def db_new_racks_first (C : Addr) : DS :=
    (dSeq (dSet 2 (dDc (dIter (dProp C (sd_Ring_hosts C) (dVar 0))) (gdTup 3 (gdCons (gdName 6) (gdCons (gdName 7) (gdCons (gdName 8) gdNil)))) dYes (dVar 6) (dVar 7) [6, 7, 8]))
    (dSeq (dSet 3 (dLstC dNil))
    (dSeq (dSet 4 (dLstC dNil))
    (dSeq (dSet 5 (dLstC dNil))
    (dSeq (dFor (dIter (dVar 1)) (gdName 6) (dSeq (dSet 7 (dDGet (dVar 2) (dVar 6)))
    (dIfS (dTst (dOp (rdIn false) (dVar 7) (dVar 3))) (dExp (dApp (dVar 5) (dCons (dVar 6) dNil))) (dSeq (dExp (dApp (dVar 3) (dCons (dVar 7) dNil)))
    (dExp (dApp (dVar 4) (dCons (dVar 6) dNil)))))))
    (dRet (dCB rdTuple (dCons (dOp rdAdd (dVar 4) (dVar 5)) dNil))))))))
abbrev N_check_point : List Str := ["ring", "point"]
def db_check_point (C : Addr) : DS :=
    (dIfS (dNot (dTru (dCall 3 (sd_is_from_to C) (dCons (dVar 1) (dCons (dC (.int 0)) (dCons (dOp rdSub (dProp C (sd_Ring_points C) (dVar 0)) (dC (.int 1))) dNil)))))) dNever dNext)
abbrev N_is_next_host : List Str := ["value", "points", "hosts", "name", "rack", "marks"]
def db_is_next_host (C : Addr) : DS :=
    (dSeq (dIfS (dOr (dNot (dTru (dIsi "tuple" (dVar 0)))) (dTst (dOp rdNe (dCB rdLen (dCons (dVar 0) dNil)) (dC (.int 3))))) (dRet (dC (.bl false))) dNext)
    (dSeq (dAsg (dVar 0) (gdTup 3 (gdCons (gdName 3) (gdCons (gdName 4) (gdCons (gdName 5) gdNil)))))
    (dRet (dAndV (dCall 2 (sd_is_free_name C) (dCons (dVar 3) (dCons (dVar 2) dNil))) (dAndV (dCall 1 (sd_is_name C) (dCons (dVar 4) dNil)) (dCall 3 (sd_are_free_marks C) (dCons (dVar 5) (dCons (dVar 1) (dCons (dVar 2) dNil)))))))))
abbrev N_keepers_in : List Str := ["ring", "walk", "names"]
def db_keepers_in (C : Addr) : DS :=
    (dSeq (dSet 2 (dIf (dTst (dOp rdEq (dProp C (sd_Ring_spread C) (dVar 0)) (dC (.str "racks")))) (dCall 2 (sd_new_racks_first C) (dCons (dVar 0) (dCons (dVar 1) dNil))) (dVar 1)))
    (dRet (dSl rdSl (dVar 2) dNo (dPart (dProp C (sd_Ring_factor C) (dVar 0))))))
abbrev N_Ring_walk : List Str := ["self", "point", "met", "host", "_", "name"]
def db_Ring_walk (C : Addr) : DS :=
    (dSeq (dExp (dCall 2 (sd_check_point C) (dCons (dVar 0) (dCons (dVar 1) dNil))))
    (dSeq (dSet 2 (dCB rdSortP (dCons (dLc (dIter (dFld C "_hosts" (dVar 0))) (gdName 3) dYes (dTup (dCons (dMeth C "_way" 3 (sd_Ring__way C) (dVar 0) (dCons (dVar 1) (dCons (dOp rdIx (dVar 3) (dC (.int 2))) dNil))) (dCons (dOp rdIx (dVar 3) (dC (.int 0))) dNil))) [3]) dNil)))
    (dRet (dCB rdTuple (dCons (dLc (dIter (dVar 2)) (gdTup 2 (gdCons (gdName 4) (gdCons (gdName 5) gdNil))) dYes (dVar 5) [4, 5]) dNil)))))
abbrev N_check_hosts : List Str := ["points", "hosts", "index", "host"]
def db_check_hosts (C : Addr) : DS :=
    (dSeq (dIfS (dOr (dNot (dTru (dIsi "tuple" (dVar 1)))) (dTst (dOp rdEq (dCB rdLen (dCons (dVar 1) dNil)) (dC (.int 0))))) dNever dNext)
    (dFor (dEnum (dCons (dVar 1) dNil)) (gdTup 2 (gdCons (gdName 2) (gdCons (gdName 3) gdNil))) (dIfS (dOr (dTst (dOp rdEq (dVar 2) (dC (.int 12)))) (dNot (dTru (dCall 3 (sd_is_next_host C) (dCons (dVar 3) (dCons (dVar 0) (dCons (dSl rdSl (dVar 1) dNo (dPart (dVar 2))) dNil))))))) dNever dNext)))
abbrev N_Ring_keepers : List Str := ["self", "point"]
def db_Ring_keepers (C : Addr) : DS :=
    (dRet (dCall 2 (sd_keepers_in C) (dCons (dVar 0) (dCons (dMeth C "walk" 2 (sd_Ring_walk C) (dVar 0) (dCons (dVar 1) dNil)) dNil))))
abbrev N_Ring___init__ : List Str := ["self", "points", "factor", "spread", "write", "read", "pending", "hosts"]
def db_Ring___init__ (C : Addr) : DS :=
    (dSeq (dIfS (dNot (dTru (dCall 3 (sd_is_from_to C) (dCons (dVar 1) (dCons (dC (.int 1)) (dCons (dC (.int 1000000000000000000)) dNil)))))) dNever dNext)
    (dSeq (dIfS (dNot (dTru (dCall 3 (sd_is_from_to C) (dCons (dVar 2) (dCons (dC (.int 1)) (dCons (dC (.int 5)) dNil)))))) dNever dNext)
    (dSeq (dIfS (dNot (dTru (dCall 2 (sd_is_word_of C) (dCons (dVar 3) (dCons (dC (.tup [.str "hosts", .str "racks"])) dNil))))) dNever dNext)
    (dSeq (dIfS (dNot (dTru (dCall 3 (sd_is_from_to C) (dCons (dVar 4) (dCons (dC (.int 1)) (dCons (dVar 2) dNil)))))) dNever dNext)
    (dSeq (dIfS (dNot (dTru (dCall 3 (sd_is_from_to C) (dCons (dVar 5) (dCons (dC (.int 1)) (dCons (dVar 2) dNil)))))) dNever dNext)
    (dSeq (dIfS (dNot (dTru (dCall 2 (sd_is_word_of C) (dCons (dVar 6) (dCons (dC (.tup [.str "plain", .str "with"])) dNil))))) dNever dNext)
    (dSeq (dExp (dCall 2 (sd_check_hosts C) (dCons (dVar 1) (dCons (dVar 7) dNil))))
    (dSeq (dFSet C "_points" (dVar 0) (dVar 1))
    (dSeq (dFSet C "_factor" (dVar 0) (dVar 2))
    (dSeq (dFSet C "_spread" (dVar 0) (dVar 3))
    (dSeq (dFSet C "_write" (dVar 0) (dVar 4))
    (dSeq (dFSet C "_read_number" (dVar 0) (dVar 5))
    (dSeq (dFSet C "_pending" (dVar 0) (dVar 6))
    (dFSet C "_hosts" (dVar 0) (dVar 7)))))))))))))))
end R
set_option maxRecDepth 100000
namespace R
open PySem PySem.Spec PyProof.Rows L2 DL
end R
set_option maxRecDepth 100000
set_option maxHeartbeats 1000000
namespace R
open PySem PySem.Spec PyProof.Rows L2 DL
local macro_rules | `(tactic| bv_omega) => `(tactic| first | assumption | exact mset_same)
local macro_rules | `(tactic| symm) => `(tactic| first
  | ((with_reducible show ∃ _, _ = _ ∧ _); refine ⟨_, rfl, ?_⟩)
  | ((with_reducible show _ = _ ∧ _); refine ⟨rfl, ?_⟩)
  | ((with_reducible show ∃ _ _, _ = _ ∧ _ = _ ∧ _); refine ⟨_, _, rfl, rfl, ?_⟩)
  | ((with_reducible show ∃ _ _, _ = _ ∧ _); refine ⟨_, _, rfl, ?_⟩)
  | ((with_reducible show ∃ _ _ _, _ = _ ∧ _); refine ⟨_, _, _, rfl, ?_⟩)
  | ((with_reducible show (_ ≤ _ ∧ _) ∧ _); refine ⟨by omega, ?_⟩)
  | with_reducible refine add_int ?_ | with_reducible refine sub_int ?_
  | with_reducible refine lt_int ?_ | with_reducible refine le_int ?_ | with_reducible refine gt_int ?_ | with_reducible refine ge_int ?_
  | with_reducible refine int_int ?_
  | with_reducible refine eq_int ?_ | with_reducible refine ne_int ?_
  | with_reducible refine len_tup ?_ | with_reducible refine len_lst ?_
  | ((with_reducible show rdIx (.cel _) (.int _) _ _); refine ix_cel (by bv_omega) (by rfl) ?_)
  | ((with_reducible show rdIx (.lst _) (.int _) _ _); refine ix_lst (by rfl) ?_)
  | ((with_reducible show rdIx (.tup _) (.int _) _ _); refine ix_tup (by rfl) ?_)
  | ((with_reducible show rdLen [.cel _] _ _); refine len_cel (by bv_omega) ?_)
  | ((with_reducible show rdMul (.int _) (.int _) _ _); first | refine mul_l (by decide) (by decide) ?_ | refine mul_r (by decide) (by decide) ?_ | refine mul_l (by omega) (by omega) ?_ | refine mul_r (by omega) (by omega) ?_)
  | ((with_reducible show rdDiv (.int _) (.int _) _ _); refine div_int (by first | decide | assumption | omega) (by first | decide | assumption | omega) ?_)
  | ((with_reducible show rdDivmod [.int _, .int _] _ _); refine dm_int (by first | decide | assumption | omega) (by first | decide | assumption | omega) ?_)
  | ((with_reducible show @ite _ (_ = true) _ _ _); first | refine ifYes (by first | with_reducible rfl | exact Bool.not_false | assumption) ?_ | refine ifNo (by first | with_reducible rfl | exact Bool.not_true | assumption) ?_)
  | ((with_reducible show ∃ _, _ ∧ _); refine ⟨_, celL_of (by bv_omega), ?_⟩)
  | ((with_reducible show ∃ _ _ _ _, _ ∧ _ ∧ _ ∧ _ ∧ _); refine ⟨_, _, _, _, rfl, rfl, by bv_omega, by rfl, ?_⟩)
  | ((with_reducible show (_ : Nat) ≤ sizeLine ∧ _); refine ⟨by rw [sizeLine_eq]; exact Nat.le_of_ble_eq_true rfl, ?_⟩))
local macro_rules | `(tactic| infer_instance) => `(tactic| ((repeat symm); try dsimp only))
local macro_rules | `(tactic| ac_rfl) => `(tactic| ((repeat (first | symm | ((with_reducible show rdMod (.int _) (.int _) _ _); refine mod_any (by first | decide | assumption | omega) ?_; intro _ _ _))); try dsimp only))
theorem kp_is_whole (C : Addr) : Keeps N_is_whole 1 (sd_is_whole C) (db_is_whole C) := by
  rintro ds M q ex hl ⟨i, rfl, h⟩
  show db_is_whole C _ [some (.int i)] M
  unfold db_is_whole
  ac_rfl
  exact h
theorem kp_is_from_to (C : Addr) : Keeps N_is_from_to 3 (sd_is_from_to C) (db_is_from_to C) := by
  rintro ds M q ex hl ⟨v, lo, hi, rfl, h⟩
  show db_is_from_to C _ [some (.int v), some (.int lo), some (.int hi)] M
  unfold db_is_from_to
  ac_rfl
  refine ⟨v, rfl, ?_⟩
  ac_rfl
  refine ifD (fun h1 => ?_) (fun h1 => ?_)
  · ac_rfl
    have e : decide (v ≤ hi) = decide (lo ≤ v ∧ v ≤ hi) := by simp [h1]
    rw [e]; exact h
  · have e : false = decide (lo ≤ v ∧ v ≤ hi) := by simp [h1]
    rw [e]; exact h
theorem strOk_nat {x : Str} (h : x.cps.toList.all (fun c => decide (c < 1114112)) = true) : PyData.strOk x = true := by
  unfold PyData.strOk
  rw [← Array.all_toList]
  exact h
theorem name_ok {x : Str} (h : nameB x = true) : PyData.strOk x = true := by
  refine strOk_nat ?_
  unfold nameB at h
  cases e : x.cps.toList with
  | nil => rfl
  | cons c r =>
    rw [e] at h
    have h' : (letB c && r.all signB && decide (r.length ≤ 7)) = true := h
    rw [Bool.and_eq_true, Bool.and_eq_true] at h'
    obtain ⟨⟨h1, h2⟩, _⟩ := h'
    rw [List.all_eq_true] at h2 ⊢
    intro d hd
    rcases List.mem_cons.mp hd with rfl | hd
    · have := of_decide_eq_true h1
      exact decide_eq_true (by omega)
    · have := of_decide_eq_true (h2 d hd)
      exact decide_eq_true (by omega)
theorem name_len {x : Str} (h : nameB x = true) : 1 ≤ x.length ∧ x.length ≤ 8 := by
  unfold nameB at h
  rw [str_len]
  cases e : x.cps.toList with
  | nil => rw [e] at h; cases h
  | cons c r =>
    rw [e] at h
    have h' : (letB c && r.all signB && decide (r.length ≤ 7)) = true := h
    rw [Bool.and_eq_true] at h'
    have := of_decide_eq_true h'.2
    rw [List.length_cons]
    omega
theorem kg_le {M : Mem} {k : Addr} {g g' : Int} (h : Kg M k g) (e : g ≤ g') : Kg M k g' := by
  obtain ⟨a, b, c, h3, h4, h5, h6, h7⟩ := h
  exact ⟨a, b, c, h3, h4, h5, h6, by omega⟩
theorem kg_ne {M : Mem} {k c : Addr} {g : Int} (h : Kg M k g) (e : M c = none) : c ≠ k := by
  obtain ⟨a, b, c', h3, _⟩ := h
  rintro rfl
  rw [e] at h3; cases h3
/-- among so many steps in a row one is not taken -/
theorem some_free {size wish : Int} {ts : List Int} (h : (ts.length : Int) < size) : ∃ s : Nat, s ≤ ts.length ∧ (wish + s) % size ∉ ts := by
  have hp : 0 < size := by omega
  by_cases hh : ∃ s : Nat, s ≤ ts.length ∧ (wish + s) % size ∉ ts
  · exact hh
  · exfalso
    have hall : ∀ x ∈ (List.range (ts.length + 1)).map (fun s : Nat => (wish + s) % size), x ∈ ts := fun x hx => by
      obtain ⟨s, hs, rfl⟩ := List.mem_map.mp hx
      rw [List.mem_range] at hs
      by_cases m : (wish + s) % size ∈ ts
      · exact m
      · exact absurd ⟨s, by omega, m⟩ hh
    have hnd : ((List.range (ts.length + 1)).map (fun s : Nat => (wish + s) % size)).Nodup := by
      unfold List.Nodup
      rw [List.pairwise_map]
      have hr : (List.range (ts.length + 1)).Pairwise (fun a b => a < b ∧ b < ts.length + 1) := by
        have h1 : (List.range (ts.length + 1)).Pairwise (· < ·) := List.pairwise_lt_range
        exact List.Pairwise.imp_of_mem (fun {a b} ha hb hab => ⟨hab, List.mem_range.mp hb⟩) h1
      refine hr.imp fun {a b} hab e => ?_
      have e1 : (wish + b - (wish + a)) % size = 0 := by
        rw [Int.sub_emod, ← e, Int.sub_self, Int.zero_emod]
      have e2 : wish + (b : Int) - (wish + a) = ((b - a : Nat) : Int) := by omega
      rw [e2, Int.emod_eq_of_lt (by omega) (by omega)] at e1
      omega
    have := nodup_len hnd hall
    rw [List.length_map, List.length_range] at this
    omega
theorem kp_is_word_of (C : Addr) : Keeps N_is_word_of 2 (sd_is_word_of C) (db_is_word_of C) := by
  rintro ds M q ex hl (⟨x, ws, rfl, h⟩ | ⟨d, ws, t, rfl, ht, hn, h⟩)
  · show db_is_word_of C _ [some (.str x), some (strsT ws)] M
    unfold db_is_word_of
    ac_rfl
    exact in_str (xs := ws) rfl h
  · show db_is_word_of C _ [some d, some (strsT ws)] M
    unfold db_is_word_of
    refine ⟨d, rfl, t, false, ht, ?_, ?_⟩
    · have := tyD_in ht
      simp only [List.mem_cons, List.not_mem_nil, or_false] at this
      rcases this with rfl | rfl | rfl | rfl | rfl | rfl | rfl <;> first | rfl | exact absurd rfl hn
    · refine ⟨false, rfl, ?_⟩
      rw [if_neg Bool.false_ne_true]
      exact h
theorem let_in {c : Nat} (h : letB c = true) : c ∈ ("abcdefghijklmnopqrstuvwxyz" : Str).cps.toList := by
  have e : ("abcdefghijklmnopqrstuvwxyz" : Str).cps.toList = (List.range 26).map (97 + ·) := by decide +kernel
  rw [e]
  have := of_decide_eq_true h
  exact List.mem_map.mpr ⟨c - 97, List.mem_range.mpr (by omega), by omega⟩
theorem sign_in {c : Nat} (h : signB c = true) : c ∈ (("abcdefghijklmnopqrstuvwxyz" : Str) ++ ("0123456789" : Str)).cps.toList := by
  have e : (("abcdefghijklmnopqrstuvwxyz" : Str) ++ ("0123456789" : Str)).cps.toList = (List.range 26).map (97 + ·) ++ (List.range 10).map (48 + ·) := by decide +kernel
  rw [e]
  rcases of_decide_eq_true h with h | h
  · exact List.mem_append.mpr (.inl (List.mem_map.mpr ⟨c - 97, List.mem_range.mpr (by omega), by omega⟩))
  · exact List.mem_append.mpr (.inr (List.mem_map.mpr ⟨c - 48, List.mem_range.mpr (by omega), by omega⟩))
theorem kp_is_name (C : Addr) : Keeps N_is_name 1 (sd_is_name C) (db_is_name C) := by
  rintro ds M q ex hl ⟨x, rfl, hx, h⟩
  show db_is_name C _ [some (.str x), none] M
  unfold db_is_name
  have hlen := name_len hx
  have hsz : x.length ≤ sizeLine := by rw [sizeLine_eq]; omega
  ac_rfl
  refine len_str hsz ?_
  ac_rfl
  refine ifD (fun h1 => ?_) (fun h1 => absurd hlen.1 (by omega))
  ac_rfl
  have e8 : decide ((x.length : Int) ≤ 8) = true := decide_eq_true (by omega)
  rw [e8]
  ac_rfl
  unfold nameB at hx
  cases e : x.cps.toList with
  | nil => rw [e] at hx; cases hx
  | cons c r =>
    rw [e] at hx
    have h' : (letB c && r.all signB && decide (r.length ≤ 7)) = true := hx
    rw [Bool.and_eq_true, Bool.and_eq_true] at h'
    obtain ⟨⟨h1, h2⟩, h3⟩ := h'
    refine ix_str hsz (by rw [e]; exact atI_zero) ?_
    ac_rfl
    refine in_sign ?_
    refine ⟨true, by rw [decide_eq_true (let_in h1)], ?_⟩
    ac_rfl
    intro c0 hc0
    have hxl : (strD x).length ≤ sizeLine := by unfold strD; rw [List.length_map, ← str_len]; exact hsz
    refine lc_pure (fun _ => true) (fun _ => .bl true) hc0 hxl (fun _ => trivial) (fun y hy acc hz nx hyes _ => ?_) ?_
    · obtain ⟨d, hd, rfl⟩ := List.mem_map.mp hy
      have hsd : signB d = true := by
        rw [e] at hd
        rcases List.mem_cons.mp hd with rfl | hd
        · have := of_decide_eq_true h1
          exact decide_eq_true (.inl this)
        · exact List.all_eq_true.mp h2 d hd
      ac_rfl
      refine add_str (by rw [sizeLine_eq]; decide) ?_
      refine in_sign ?_
      rw [decide_eq_true (sign_in hsd)]
      exact acc_put hz (hyes rfl)
    · refine all_true (fun y hy => ?_) h
      obtain ⟨_, _, e⟩ := List.mem_map.mp hy
      exact e.symm
end R
set_option maxRecDepth 100000
set_option maxHeartbeats 1000000
namespace R
open PySem PySem.Spec PyProof.Rows L2 DL
local macro_rules | `(tactic| bv_omega) => `(tactic| first | assumption | exact mset_same)
local macro_rules | `(tactic| symm) => `(tactic| first
  | ((with_reducible show ∃ _, _ = _ ∧ _); refine ⟨_, rfl, ?_⟩)
  | ((with_reducible show _ = _ ∧ _); refine ⟨rfl, ?_⟩)
  | ((with_reducible show ∃ _ _, _ = _ ∧ _ = _ ∧ _); refine ⟨_, _, rfl, rfl, ?_⟩)
  | ((with_reducible show ∃ _ _, _ = _ ∧ _); refine ⟨_, _, rfl, ?_⟩)
  | ((with_reducible show ∃ _ _ _, _ = _ ∧ _); refine ⟨_, _, _, rfl, ?_⟩)
  | ((with_reducible show (_ ≤ _ ∧ _) ∧ _); refine ⟨by omega, ?_⟩)
  | with_reducible refine add_int ?_ | with_reducible refine sub_int ?_
  | with_reducible refine lt_int ?_ | with_reducible refine le_int ?_ | with_reducible refine gt_int ?_ | with_reducible refine ge_int ?_
  | with_reducible refine int_int ?_
  | with_reducible refine eq_int ?_ | with_reducible refine ne_int ?_
  | with_reducible refine len_tup ?_ | with_reducible refine len_lst ?_
  | ((with_reducible show rdIx (.cel _) (.int _) _ _); refine ix_cel (by bv_omega) (by rfl) ?_)
  | ((with_reducible show rdIx (.lst _) (.int _) _ _); refine ix_lst (by rfl) ?_)
  | ((with_reducible show rdIx (.tup _) (.int _) _ _); refine ix_tup (by rfl) ?_)
  | ((with_reducible show rdLen [.cel _] _ _); refine len_cel (by bv_omega) ?_)
  | ((with_reducible show rdMul (.int _) (.int _) _ _); first | refine mul_l (by decide) (by decide) ?_ | refine mul_r (by decide) (by decide) ?_ | refine mul_l (by omega) (by omega) ?_ | refine mul_r (by omega) (by omega) ?_)
  | ((with_reducible show rdDiv (.int _) (.int _) _ _); refine div_int (by first | decide | assumption | omega) (by first | decide | assumption | omega) ?_)
  | ((with_reducible show rdDivmod [.int _, .int _] _ _); refine dm_int (by first | decide | assumption | omega) (by first | decide | assumption | omega) ?_)
  | ((with_reducible show @ite _ (_ = true) _ _ _); first | refine ifYes (by first | with_reducible rfl | exact Bool.not_false | assumption) ?_ | refine ifNo (by first | with_reducible rfl | exact Bool.not_true | assumption) ?_)
  | ((with_reducible show ∃ _, _ ∧ _); refine ⟨_, celL_of (by bv_omega), ?_⟩)
  | ((with_reducible show ∃ _ _ _ _, _ ∧ _ ∧ _ ∧ _ ∧ _); refine ⟨_, _, _, _, rfl, rfl, by bv_omega, by rfl, ?_⟩)
  | ((with_reducible show (_ : Nat) ≤ sizeLine ∧ _); refine ⟨by rw [sizeLine_eq]; exact Nat.le_of_ble_eq_true rfl, ?_⟩))
local macro_rules | `(tactic| infer_instance) => `(tactic| ((repeat symm); try dsimp only))
local macro_rules | `(tactic| ac_rfl) => `(tactic| ((repeat (first | symm | ((with_reducible show rdMod (.int _) (.int _) _ _); refine mod_any (by first | decide | assumption | omega) ?_; intro _ _ _))); try dsimp only))
theorem zip_asc {ms : List Int} (h : ms.Pairwise (· < ·)) {y : D} (hy : y ∈ zipD (ms.map D.int) ((ms.map D.int).drop 1)) : ∃ a b : Int, y = .tup [.int a, .int b] ∧ a < b := by
  unfold zipD at hy
  obtain ⟨i, hi⟩ := List.getElem?_of_mem hy
  rw [List.getElem?_zipWith, List.getElem?_drop, List.getElem?_map, List.getElem?_map] at hi
  cases e1 : ms[i]? with
  | none => rw [e1] at hi; simp at hi
  | some a =>
    cases e2 : ms[1 + i]? with
    | none => rw [e1, e2] at hi; simp at hi
    | some b =>
      rw [e1, e2] at hi
      simp at hi
      refine ⟨a, b, hi.symm, ?_⟩
      obtain ⟨p1, q1⟩ := List.getElem?_eq_some_iff.mp e1
      obtain ⟨p2, q2⟩ := List.getElem?_eq_some_iff.mp e2
      have := List.pairwise_iff_getElem.mp h i (1 + i) p1 p2 (by omega)
      rw [q1, q2] at this
      exact this
theorem kp_is_ascending (C : Addr) : Keeps N_is_ascending 1 (sd_is_ascending C) (db_is_ascending C) := by
  rintro ds M q ex hl ⟨ms, rfl, h16, hasc, h⟩
  show db_is_ascending C _ [some (intsT ms), none, none] M
  unfold db_is_ascending
  ac_rfl
  refine slf_tup (n := 1) ?_
  ac_rfl
  refine ⟨_, _, _, _, rfl, .inl ⟨rfl, rfl, ?_⟩⟩
  intro c hc
  refine lc_pure (fun _ => true) (fun _ => .bl true) hc ?_ (fun _ => trivial) (fun y hy acc hz nx hyes _ => ?_) ?_
  · unfold zipD; rw [List.length_zipWith, List.length_map, sizeLine_eq]; omega
  · obtain ⟨a, b, rfl, hab⟩ := zip_asc hasc hy
    ac_rfl
    rw [decide_eq_true hab]
    exact acc_put hz (hyes rfl)
  · refine all_true (fun y hy => ?_) h
    obtain ⟨_, _, e⟩ := List.mem_map.mp hy
    exact e.symm
theorem kp_is_free_name (C : Addr) : Keeps N_is_free_name 2 (sd_is_free_name C) (db_is_free_name C) := by
  rintro ds M q ex hl ⟨x, hs, rfl, hx, h12, hne, h⟩
  show db_is_free_name C _ [some (.str x), some (crewD hs), none] M
  unfold db_is_free_name
  ac_rfl
  refine ⟨x, rfl, hx, ?_⟩
  ac_rfl
  intro c hc
  refine lc_pure (fun _ => true) (fun _ => .bl false) hc (by rw [List.length_map, sizeLine_eq]; omega) (fun _ => rfl) (fun y hy acc hz nx hyes _ => ?_) ?_
  · obtain ⟨o, ho, rfl⟩ := List.mem_map.mp hy
    obtain ⟨h1, h2⟩ := hne o ho
    ac_rfl
    refine eq_str (name_ok hx) (name_ok h1) ?_
    rw [decide_eq_false (fun e => h2 e.symm)]
    exact acc_put hz (hyes rfl)
  · refine any_false (fun y hy => ?_) ?_
    · obtain ⟨_, _, e⟩ := List.mem_map.mp hy
      exact e.symm
    · ac_rfl
      exact h
theorem kp_are_free_marks (C : Addr) : Keeps N_are_free_marks 3 (sd_are_free_marks C) (db_are_free_marks C) := by
  rintro ds M q ex hl ⟨ms, size, hs, rfl, hm, h12, hfree, h⟩
  show db_are_free_marks C _ [some (intsT ms), some (.int size), some (crewD hs), none, none] M
  unfold db_are_free_marks
  ac_rfl
  have h1 := hm.ne
  have h16 := hm.few
  rw [List.length_map]
  refine ifD (fun h2 => ?_) (fun h2 => absurd h1 (by omega))
  ac_rfl
  rw [decide_eq_true (show (ms.length : Int) ≤ 16 by omega)]
  ac_rfl
  intro c hc
  refine lc_pure (fun _ => true) (fun _ => .bl true) hc (by rw [List.length_map, sizeLine_eq]; omega) (fun _ => rfl) (fun y hy acc hz nx hyes _ => ?_) ?_
  · obtain ⟨m, mm, rfl⟩ := List.mem_map.mp hy
    ac_rfl
    refine ⟨m, 0, size - 1, rfl, ?_⟩
    have := hm.inn m mm
    rw [decide_eq_true (show 0 ≤ m ∧ m ≤ size - 1 by omega)]
    exact acc_put hz (hyes rfl)
  · refine all_true (fun y hy => ?_) ?_
    · obtain ⟨_, _, e⟩ := List.mem_map.mp hy
      exact e.symm
    ac_rfl
    refine ⟨ms, rfl, h16, hm.asc, ?_⟩
    ac_rfl
    intro c2 hc2
    refine lc2_lst (fun i M' => ∃ acc : List D, M' = mset M c2 (.ls acc) ∧ (∀ x ∈ acc, x = .bl false) ∧ acc.length ≤ 16 * i) ?_ ?_ _ ⟨[], rfl, fun x hx => by simp at hx, Nat.zero_le _⟩
    · rintro M' ⟨acc, rfl, ha, hl⟩
      refine ⟨rfl, acc, mset_same, ?_⟩
      rw [mdel_mset hc2]
      refine any_false ha ?_
      ac_rfl
      exact h
    · rintro i x M' hx ⟨acc, rfl, ha, hl⟩ nx hnx
      refine ⟨rfl, ?_⟩
      have hi := (List.getElem?_eq_some_iff.mp hx).1
      rw [List.length_map] at hi
      obtain ⟨o, ho, rfl⟩ := List.mem_map.mp (List.mem_of_getElem? hx)
      ac_rfl

      refine in_lst (fun j M' => ∃ acc : List D, M' = mset M c2 (.ls acc) ∧ (∀ x ∈ acc, x = .bl false) ∧ acc.length ≤ 16 * i + j) ?_ ?_ _ ⟨acc, rfl, ha, by omega⟩
      · rintro M' ⟨acc, rfl, ha, hl⟩
        rw [List.length_map] at hl
        exact ⟨rfl, hnx _ ⟨acc, rfl, ha, by omega⟩⟩
      · rintro j x M' hx ⟨acc, rfl, ha, hl⟩ nx2 hnx2
        have hj := (List.getElem?_eq_some_iff.mp hx).1
        rw [List.length_map] at hj
        obtain ⟨m, mm, rfl⟩ := List.mem_map.mp (List.mem_of_getElem? hx)
        refine ⟨rfl, ?_⟩
        ac_rfl
        refine in_int (xs := o.marks) rfl ?_
        rw [decide_eq_false (hfree o ho m mm)]
        refine acc_put (by rw [sizeLine_eq]; omega) (hnx2 _ ⟨acc ++ [.bl false], rfl, fun x hx => ?_, by rw [List.length_append, List.length_singleton]; omega⟩)
        rcases List.mem_append.mp hx with hx | hx
        · exact ha x hx
        · exact List.mem_singleton.mp hx
theorem kp_is_next_host (C : Addr) : Keeps N_is_next_host 3 (sd_is_next_host C) (db_is_next_host C) := by
  rintro ds M q ex hl ⟨o, size, hs, rfl, hn, h12, hnames, h⟩
  show db_is_next_host C _ [some (hostD o), some (.int size), some (crewD hs), none, none, none] M
  unfold db_is_next_host
  ac_rfl
  refine ⟨o.name, hs, rfl, hn.name, h12, fun p hp => ⟨hnames p hp, hn.fresh p hp⟩, ?_⟩
  ac_rfl
  refine ⟨o.rack, rfl, hn.rack, ?_⟩
  ac_rfl
  exact ⟨o.marks, size, hs, rfl, hn.marks, h12, hn.free, h⟩
theorem crew_name {size : Int} {hs : List Host} (h : CrewOk size hs) : ∀ o ∈ hs, nameB o.name = true := fun o ho => by
  obtain ⟨i, hi⟩ := List.getElem?_of_mem ho
  exact (h.each i o hi).name
theorem crew_marks {size : Int} {hs : List Host} (h : CrewOk size hs) : ∀ o ∈ hs, MarksOk size o.marks := fun o ho => by
  obtain ⟨i, hi⟩ := List.getElem?_of_mem ho
  exact (h.each i o hi).marks
theorem mem_take {α : Type} {xs : List α} {i j : Nat} {x : α} (h : xs[i]? = some x) (hij : i < j) : x ∈ xs.take j := by
  refine List.mem_of_getElem? (i := i) ?_
  rw [List.getElem?_take, if_pos hij]; exact h
theorem crew_inj {size : Int} {hs : List Host} (h : CrewOk size hs) {o p : Host} (ho : o ∈ hs) (hp : p ∈ hs) (e : o.name = p.name) : o = p := by
  obtain ⟨i, hi⟩ := List.getElem?_of_mem ho
  obtain ⟨j, hj⟩ := List.getElem?_of_mem hp
  rcases Nat.lt_trichotomy i j with l | l | l
  · exact absurd e ((h.each j p hj).fresh o (mem_take hi l))
  · subst l; rw [hi] at hj; exact Option.some.inj hj
  · exact absurd e.symm ((h.each i o hi).fresh p (mem_take hj l))
theorem crew_apart {size : Int} {hs : List Host} (h : CrewOk size hs) {o p : Host} (ho : o ∈ hs) (hp : p ∈ hs) {m : Int} (m1 : m ∈ o.marks) (m2 : m ∈ p.marks) : o = p := by
  obtain ⟨i, hi⟩ := List.getElem?_of_mem ho
  obtain ⟨j, hj⟩ := List.getElem?_of_mem hp
  rcases Nat.lt_trichotomy i j with l | l | l
  · exact absurd m1 ((h.each j p hj).free o (mem_take hi l) m m2)
  · subst l; rw [hi] at hj; exact Option.some.inj hj
  · exact absurd m2 ((h.each i o hi).free p (mem_take hj l) m m1)
theorem crew_rack {size : Int} {hs : List Host} (h : CrewOk size hs) {o : Host} (ho : o ∈ hs) : rackOf hs o.name = o.rack := by
  unfold rackOf
  cases e : hs.find? fun h => decide (h.name = o.name) with
  | none =>
    have := List.find?_eq_none.mp e o ho
    simp at this
  | some p =>
    have h1 := List.find?_some e
    have h2 := List.mem_of_find?_eq_some e
    have : p = o := crew_inj h h2 ho (by simpa using h1)
    subst this
    rfl
theorem kp_check_hosts (C : Addr) : Keeps N_check_hosts 2 (sd_check_hosts C) (db_check_hosts C) := by
  rintro ds M q ex hl ⟨size, hs, rfl, hc, h⟩
  show db_check_hosts C _ [some (.int size), some (crewD hs), none, none] M
  unfold db_check_hosts
  ac_rfl
  have hne : 0 < hs.length := List.length_pos_iff.mpr hc.ne
  have h12 := hc.few
  rw [decide_eq_false (show ¬ (((hs.map hostD).length : Int) = 0) by rw [List.length_map]; omega)]
  ac_rfl
  refine for_lst (fun i env M' => M' = M ∧ ∃ t u, env = [some (.int size), some (crewD hs), t, u]) ?_ ?_ _ _ ⟨rfl, none, none, rfl⟩
  · rintro env M' ⟨rfl, t, u, rfl⟩
    exact ⟨rfl, h⟩
  · rintro i x env M' hx ⟨rfl, t, u, rfl⟩ nx hn
    refine ⟨rfl, ?_⟩
    obtain ⟨y, hy, rfl⟩ := enumD_get hx
    rw [List.getElem?_map] at hy
    obtain ⟨o, ho, rfl⟩ := omap hy
    have hi := (List.getElem?_eq_some_iff.mp ho).1
    ac_rfl
    rw [decide_eq_false (show ¬ ((i : Int) = 12) by omega)]
    ac_rfl
    refine sl_tup (n := i) ?_
    rw [← List.map_take]
    ac_rfl
    refine ⟨o, size, hs.take i, rfl, hc.each i o ho, by rw [List.length_take]; omega, fun p hp => crew_name hc p (List.mem_of_mem_take hp), ?_⟩
    ac_rfl
    exact hn _ _ ⟨rfl, _, _, rfl⟩
theorem kp_Ring___init__ (C : Addr) : Keeps N_Ring___init__ 8 (sd_Ring___init__ C) (db_Ring___init__ C) := by
  rintro ds M q ex hl ⟨c, size, r, hs, rfl, hM, s0, s1, hr, hc, h⟩
  show db_Ring___init__ C _ [some (.cel c), some (.int size), some (.int r.wide), some (.str r.spread), some (.int r.write), some (.int r.read), some (.str r.pend), some (crewD hs)] M
  unfold db_Ring___init__
  ac_rfl
  refine ⟨size, 1, 1000000000000000000, rfl, ?_⟩
  rw [decide_eq_true (show 1 ≤ size ∧ size ≤ 1000000000000000000 from ⟨s0, s1⟩)]
  ac_rfl
  refine ⟨r.wide, 1, 5, rfl, ?_⟩
  rw [decide_eq_true hr.w]
  ac_rfl
  refine .inl ⟨r.spread, ["hosts", "racks"], rfl, ?_⟩
  rw [decide_eq_true (show r.spread ∈ (["hosts", "racks"] : List Str) by rcases hr.s with e | e <;> rw [e] <;> simp)]
  ac_rfl
  refine ⟨r.write, 1, r.wide, rfl, ?_⟩
  rw [decide_eq_true hr.p]
  ac_rfl
  refine ⟨r.read, 1, r.wide, rfl, ?_⟩
  rw [decide_eq_true hr.g]
  ac_rfl
  refine .inl ⟨r.pend, ["plain", "with"], rfl, ?_⟩
  rw [decide_eq_true (show r.pend ∈ (["plain", "with"] : List Str) by rcases hr.m with e | e <;> rw [e] <;> simp)]
  ac_rfl
  refine ⟨size, hs, rfl, hc, ?_⟩
  ac_rfl
  refine ⟨c, _, rfl, hM, Nat.le_of_ble_eq_true rfl, ?_⟩
  ac_rfl
  refine ⟨c, _, rfl, mset_same, Nat.le_of_ble_eq_true rfl, ?_⟩
  ac_rfl
  refine ⟨c, _, rfl, mset_same, Nat.le_of_ble_eq_true rfl, ?_⟩
  ac_rfl
  refine ⟨c, _, rfl, mset_same, Nat.le_of_ble_eq_true rfl, ?_⟩
  ac_rfl
  refine ⟨c, _, rfl, mset_same, Nat.le_of_ble_eq_true rfl, ?_⟩
  ac_rfl
  refine ⟨c, _, rfl, mset_same, Nat.le_of_ble_eq_true rfl, ?_⟩
  ac_rfl
  refine ⟨c, _, rfl, mset_same, Nat.le_of_ble_eq_true rfl, ?_⟩
  simp only [mset_mset]
  exact h
theorem fs_ring {C : Addr} {size : Int} {r : Rule} {hs : List Host} {M : Mem} : fsOf M C (ringD C size r hs) = some (fieldsD size r hs) := by
  show (if C = C then some (fNames.zip (frameL size r hs)) else none) = _
  rw [if_pos rfl]
  rfl
theorem fld_ring {C : Addr} {size : Int} {r : Rule} {hs : List Host} {M : Mem} {B : D → Prop} {f : Str} {v : D} (h : (fieldsD size r hs).lookup f = some v) (w : B v) : ∃ fs v, fsOf M C (ringD C size r hs) = some fs ∧ fs.lookup f = some v ∧ B v := ⟨_, v, fs_ring, h, w⟩
theorem lk_hosts {size : Int} {r : Rule} {hs : List Host} : (fieldsD size r hs).lookup ("_hosts" : Str) = some (crewD hs) := by rfl
theorem lk_points {size : Int} {r : Rule} {hs : List Host} : (fieldsD size r hs).lookup ("_points" : Str) = some (.int size) := by rfl
theorem lk_spread {size : Int} {r : Rule} {hs : List Host} : (fieldsD size r hs).lookup ("_spread" : Str) = some (.str r.spread) := by rfl
theorem lk_factor {size : Int} {r : Rule} {hs : List Host} : (fieldsD size r hs).lookup ("_factor" : Str) = some (.int r.wide) := by rfl
theorem kp_Ring__way (C : Addr) : Keeps N_Ring__way 3 (sd_Ring__way C) (db_Ring__way C) := by
  rintro ds M q ex hl ⟨size, r, hs, p, ms, rfl, h0, h1, h16, h⟩
  show db_Ring__way C _ [some (ringD C size r hs), some (.int p), some (intsT ms), none] M
  unfold db_Ring__way
  ac_rfl
  intro c hc
  refine lc_pure (fun _ => true) (fun d => match d with | .int k => .int ((k - p) % size) | d => d) hc (by rw [List.length_map, sizeLine_eq]; omega) (fun _ => rfl) (fun y hy acc hz nx hyes _ => ?_) ?_
  · obtain ⟨m, mm, rfl⟩ := List.mem_map.mp hy
    infer_instance
    refine fld_ring lk_points ?_
    refine mod_int h0 ?_
    exact acc_put hz (hyes rfl)
  · have e : ((ms.map D.int).filter (fun _ => true)).map (fun d => match d with | .int k => .int ((k - p) % size) | d => d) = (ms.map fun k => (k - p) % size).map D.int := by
      rw [List.filter_eq_self.mpr (fun _ _ => rfl), List.map_map, List.map_map]; rfl
    rw [e]
    refine ⟨_, _, _, rfl, rfl, ints_map _, by rw [List.length_map]; omega, fun m m1 m2 => h m ⟨m1, m2⟩⟩
end R
set_option maxRecDepth 100000
set_option maxHeartbeats 1000000
namespace R
open PySem PySem.Spec PyProof.Rows L2 DL
local macro_rules | `(tactic| bv_omega) => `(tactic| first | assumption | exact mset_same)
local macro_rules | `(tactic| symm) => `(tactic| first
  | ((with_reducible show ∃ _, _ = _ ∧ _); refine ⟨_, rfl, ?_⟩)
  | ((with_reducible show _ = _ ∧ _); refine ⟨rfl, ?_⟩)
  | ((with_reducible show ∃ _ _, _ = _ ∧ _ = _ ∧ _); refine ⟨_, _, rfl, rfl, ?_⟩)
  | ((with_reducible show ∃ _ _, _ = _ ∧ _); refine ⟨_, _, rfl, ?_⟩)
  | ((with_reducible show ∃ _ _ _, _ = _ ∧ _); refine ⟨_, _, _, rfl, ?_⟩)
  | ((with_reducible show (_ ≤ _ ∧ _) ∧ _); refine ⟨by omega, ?_⟩)
  | with_reducible refine add_int ?_ | with_reducible refine sub_int ?_
  | with_reducible refine lt_int ?_ | with_reducible refine le_int ?_ | with_reducible refine gt_int ?_ | with_reducible refine ge_int ?_
  | with_reducible refine int_int ?_
  | with_reducible refine eq_int ?_ | with_reducible refine ne_int ?_
  | with_reducible refine len_tup ?_ | with_reducible refine len_lst ?_
  | ((with_reducible show rdIx (.cel _) (.int _) _ _); refine ix_cel (by bv_omega) (by rfl) ?_)
  | ((with_reducible show rdIx (.lst _) (.int _) _ _); refine ix_lst (by rfl) ?_)
  | ((with_reducible show rdIx (.tup _) (.int _) _ _); refine ix_tup (by rfl) ?_)
  | ((with_reducible show rdLen [.cel _] _ _); refine len_cel (by bv_omega) ?_)
  | ((with_reducible show rdMul (.int _) (.int _) _ _); first | refine mul_l (by decide) (by decide) ?_ | refine mul_r (by decide) (by decide) ?_ | refine mul_l (by omega) (by omega) ?_ | refine mul_r (by omega) (by omega) ?_)
  | ((with_reducible show rdDiv (.int _) (.int _) _ _); refine div_int (by first | decide | assumption | omega) (by first | decide | assumption | omega) ?_)
  | ((with_reducible show rdDivmod [.int _, .int _] _ _); refine dm_int (by first | decide | assumption | omega) (by first | decide | assumption | omega) ?_)
  | ((with_reducible show @ite _ (_ = true) _ _ _); first | refine ifYes (by first | with_reducible rfl | exact Bool.not_false | assumption) ?_ | refine ifNo (by first | with_reducible rfl | exact Bool.not_true | assumption) ?_)
  | ((with_reducible show ∃ _, _ ∧ _); refine ⟨_, celL_of (by bv_omega), ?_⟩)
  | ((with_reducible show ∃ _ _ _ _, _ ∧ _ ∧ _ ∧ _ ∧ _); refine ⟨_, _, _, _, rfl, rfl, by bv_omega, by rfl, ?_⟩)
  | ((with_reducible show (_ : Nat) ≤ sizeLine ∧ _); refine ⟨by rw [sizeLine_eq]; exact Nat.le_of_ble_eq_true rfl, ?_⟩))
local macro_rules | `(tactic| infer_instance) => `(tactic| ((repeat symm); try dsimp only))
local macro_rules | `(tactic| ac_rfl) => `(tactic| ((repeat (first | symm | ((with_reducible show rdMod (.int _) (.int _) _ _); refine mod_any (by first | decide | assumption | omega) ?_; intro _ _ _))); try dsimp only))
theorem str_ext {x y : Str} (h : x.cps.toList = y.cps.toList) : x = y := TL.ext_tl h
theorem num_tl (n : Nat) : (numS (n : Int)).cps.toList = TL.numL n := TL.tl_num n
theorem num_len {i : Int} (h0 : 0 ≤ i) (h1 : i < 10 ^ 19) : (numS i).length ≤ 19 := by
  obtain ⟨n, rfl⟩ := Int.eq_ofNat_of_zero_le h0
  rw [str_len, num_tl]; exact TL.numL_len (by decide) (by omega)
theorem sum_le {α : Type} {f : α → Nat} {b : Nat} : ∀ {l : List α}, (∀ x ∈ l, f x ≤ b) → (l.map f).sum ≤ l.length * b
  | [], _ => by simp
  | x :: l, h => by
    have := sum_le (l := l) fun y hy => h y (List.mem_cons_of_mem _ hy)
    have h1 := h x (by simp)
    rw [List.map_cons, List.sum_cons, List.length_cons, Nat.succ_mul]
    omega
end R
set_option maxRecDepth 100000
set_option maxHeartbeats 1000000
namespace R
open PySem PySem.Spec PyProof.Rows L2 DL
local macro_rules | `(tactic| bv_omega) => `(tactic| first | assumption | exact mset_same)
local macro_rules | `(tactic| symm) => `(tactic| first
  | ((with_reducible show ∃ _, _ = _ ∧ _); refine ⟨_, rfl, ?_⟩)
  | ((with_reducible show _ = _ ∧ _); refine ⟨rfl, ?_⟩)
  | ((with_reducible show ∃ _ _, _ = _ ∧ _ = _ ∧ _); refine ⟨_, _, rfl, rfl, ?_⟩)
  | ((with_reducible show ∃ _ _, _ = _ ∧ _); refine ⟨_, _, rfl, ?_⟩)
  | ((with_reducible show ∃ _ _ _, _ = _ ∧ _); refine ⟨_, _, _, rfl, ?_⟩)
  | ((with_reducible show (_ ≤ _ ∧ _) ∧ _); refine ⟨by omega, ?_⟩)
  | with_reducible refine add_int ?_ | with_reducible refine sub_int ?_
  | with_reducible refine lt_int ?_ | with_reducible refine le_int ?_ | with_reducible refine gt_int ?_ | with_reducible refine ge_int ?_
  | with_reducible refine int_int ?_
  | with_reducible refine eq_int ?_ | with_reducible refine ne_int ?_
  | with_reducible refine len_tup ?_ | with_reducible refine len_lst ?_
  | ((with_reducible show rdIx (.cel _) (.int _) _ _); refine ix_cel (by bv_omega) (by rfl) ?_)
  | ((with_reducible show rdIx (.lst _) (.int _) _ _); refine ix_lst (by rfl) ?_)
  | ((with_reducible show rdIx (.tup _) (.int _) _ _); refine ix_tup (by rfl) ?_)
  | ((with_reducible show rdLen [.cel _] _ _); refine len_cel (by bv_omega) ?_)
  | ((with_reducible show rdMul (.int _) (.int _) _ _); first | refine mul_l (by decide) (by decide) ?_ | refine mul_r (by decide) (by decide) ?_ | refine mul_l (by omega) (by omega) ?_ | refine mul_r (by omega) (by omega) ?_)
  | ((with_reducible show rdDiv (.int _) (.int _) _ _); refine div_int (by first | decide | assumption | omega) (by first | decide | assumption | omega) ?_)
  | ((with_reducible show rdDivmod [.int _, .int _] _ _); refine dm_int (by first | decide | assumption | omega) (by first | decide | assumption | omega) ?_)
  | ((with_reducible show @ite _ (_ = true) _ _ _); first | refine ifYes (by first | with_reducible rfl | exact Bool.not_false | assumption) ?_ | refine ifNo (by first | with_reducible rfl | exact Bool.not_true | assumption) ?_)
  | ((with_reducible show ∃ _, _ ∧ _); refine ⟨_, celL_of (by bv_omega), ?_⟩)
  | ((with_reducible show ∃ _ _ _ _, _ ∧ _ ∧ _ ∧ _ ∧ _); refine ⟨_, _, _, _, rfl, rfl, by bv_omega, by rfl, ?_⟩)
  | ((with_reducible show (_ : Nat) ≤ sizeLine ∧ _); refine ⟨by rw [sizeLine_eq]; exact Nat.le_of_ble_eq_true rfl, ?_⟩))
local macro_rules | `(tactic| infer_instance) => `(tactic| ((repeat symm); try dsimp only))
local macro_rules | `(tactic| ac_rfl) => `(tactic| ((repeat (first | symm | ((with_reducible show rdMod (.int _) (.int _) _ _); refine mod_any (by first | decide | assumption | omega) ?_; intro _ _ _))); try dsimp only))
theorem sp_len : (" " : Str).length = 1 := by decide +kernel
theorem crew_hostT {size : Int} {hs : List Host} (hc : CrewOk size hs) {h : Host} (hh : h ∈ hs) : HostT size h := by
  obtain ⟨i, hi⟩ := List.getElem?_of_mem hh
  have := hc.each i h hi
  exact ⟨this.name, this.rack, this.marks⟩
end R
set_option maxRecDepth 100000
set_option maxHeartbeats 1000000
namespace R
open PySem PySem.Spec PyProof.Rows L2 DL
local macro_rules | `(tactic| bv_omega) => `(tactic| first | assumption | exact mset_same)
local macro_rules | `(tactic| symm) => `(tactic| first
  | ((with_reducible show ∃ _, _ = _ ∧ _); refine ⟨_, rfl, ?_⟩)
  | ((with_reducible show _ = _ ∧ _); refine ⟨rfl, ?_⟩)
  | ((with_reducible show ∃ _ _, _ = _ ∧ _ = _ ∧ _); refine ⟨_, _, rfl, rfl, ?_⟩)
  | ((with_reducible show ∃ _ _, _ = _ ∧ _); refine ⟨_, _, rfl, ?_⟩)
  | ((with_reducible show ∃ _ _ _, _ = _ ∧ _); refine ⟨_, _, _, rfl, ?_⟩)
  | ((with_reducible show (_ ≤ _ ∧ _) ∧ _); refine ⟨by omega, ?_⟩)
  | with_reducible refine add_int ?_ | with_reducible refine sub_int ?_
  | with_reducible refine lt_int ?_ | with_reducible refine le_int ?_ | with_reducible refine gt_int ?_ | with_reducible refine ge_int ?_
  | with_reducible refine int_int ?_
  | with_reducible refine eq_int ?_ | with_reducible refine ne_int ?_
  | with_reducible refine len_tup ?_ | with_reducible refine len_lst ?_
  | ((with_reducible show rdIx (.cel _) (.int _) _ _); refine ix_cel (by bv_omega) (by rfl) ?_)
  | ((with_reducible show rdIx (.lst _) (.int _) _ _); refine ix_lst (by rfl) ?_)
  | ((with_reducible show rdIx (.tup _) (.int _) _ _); refine ix_tup (by rfl) ?_)
  | ((with_reducible show rdLen [.cel _] _ _); refine len_cel (by bv_omega) ?_)
  | ((with_reducible show rdMul (.int _) (.int _) _ _); first | refine mul_l (by decide) (by decide) ?_ | refine mul_r (by decide) (by decide) ?_ | refine mul_l (by omega) (by omega) ?_ | refine mul_r (by omega) (by omega) ?_)
  | ((with_reducible show rdDiv (.int _) (.int _) _ _); refine div_int (by first | decide | assumption | omega) (by first | decide | assumption | omega) ?_)
  | ((with_reducible show rdDivmod [.int _, .int _] _ _); refine dm_int (by first | decide | assumption | omega) (by first | decide | assumption | omega) ?_)
  | ((with_reducible show @ite _ (_ = true) _ _ _); first | refine ifYes (by first | with_reducible rfl | exact Bool.not_false | assumption) ?_ | refine ifNo (by first | with_reducible rfl | exact Bool.not_true | assumption) ?_)
  | ((with_reducible show ∃ _, _ ∧ _); refine ⟨_, celL_of (by bv_omega), ?_⟩)
  | ((with_reducible show ∃ _ _ _ _, _ ∧ _ ∧ _ ∧ _ ∧ _); refine ⟨_, _, _, _, rfl, rfl, by bv_omega, by rfl, ?_⟩)
  | ((with_reducible show (_ : Nat) ≤ sizeLine ∧ _); refine ⟨by rw [sizeLine_eq]; exact Nat.le_of_ble_eq_true rfl, ?_⟩))
local macro_rules | `(tactic| infer_instance) => `(tactic| ((repeat symm); try dsimp only))
local macro_rules | `(tactic| ac_rfl) => `(tactic| ((repeat (first | symm | ((with_reducible show rdMod (.int _) (.int _) _ _); refine mod_any (by first | decide | assumption | omega) ?_; intro _ _ _))); try dsimp only))
theorem log_ok {i : Int} (h0 : 0 ≤ i) (h1 : i < 10 ^ 19) : i.natAbs.log2 < 1920 := by
  obtain ⟨n, rfl⟩ := Int.eq_ofNat_of_zero_le h0
  have h2 : n < 2 ^ 64 := by omega
  have : (n : Int).natAbs = n := by omega
  rw [this]
  by_cases hn : n = 0
  · subst hn; decide
  · have := (Nat.log2_lt hn).mpr h2
    omega
end R
set_option maxRecDepth 100000
set_option maxHeartbeats 1000000
namespace R
open PySem PySem.Spec PyProof.Rows L2 DL
local macro_rules | `(tactic| bv_omega) => `(tactic| first | assumption | exact mset_same)
local macro_rules | `(tactic| symm) => `(tactic| first
  | ((with_reducible show ∃ _, _ = _ ∧ _); refine ⟨_, rfl, ?_⟩)
  | ((with_reducible show _ = _ ∧ _); refine ⟨rfl, ?_⟩)
  | ((with_reducible show ∃ _ _, _ = _ ∧ _ = _ ∧ _); refine ⟨_, _, rfl, rfl, ?_⟩)
  | ((with_reducible show ∃ _ _, _ = _ ∧ _); refine ⟨_, _, rfl, ?_⟩)
  | ((with_reducible show ∃ _ _ _, _ = _ ∧ _); refine ⟨_, _, _, rfl, ?_⟩)
  | ((with_reducible show (_ ≤ _ ∧ _) ∧ _); refine ⟨by omega, ?_⟩)
  | with_reducible refine add_int ?_ | with_reducible refine sub_int ?_
  | with_reducible refine lt_int ?_ | with_reducible refine le_int ?_ | with_reducible refine gt_int ?_ | with_reducible refine ge_int ?_
  | with_reducible refine int_int ?_
  | with_reducible refine eq_int ?_ | with_reducible refine ne_int ?_
  | with_reducible refine len_tup ?_ | with_reducible refine len_lst ?_
  | ((with_reducible show rdIx (.cel _) (.int _) _ _); refine ix_cel (by bv_omega) (by rfl) ?_)
  | ((with_reducible show rdIx (.lst _) (.int _) _ _); refine ix_lst (by rfl) ?_)
  | ((with_reducible show rdIx (.tup _) (.int _) _ _); refine ix_tup (by rfl) ?_)
  | ((with_reducible show rdLen [.cel _] _ _); refine len_cel (by bv_omega) ?_)
  | ((with_reducible show rdMul (.int _) (.int _) _ _); first | refine mul_l (by decide) (by decide) ?_ | refine mul_r (by decide) (by decide) ?_ | refine mul_l (by omega) (by omega) ?_ | refine mul_r (by omega) (by omega) ?_)
  | ((with_reducible show rdDiv (.int _) (.int _) _ _); refine div_int (by first | decide | assumption | omega) (by first | decide | assumption | omega) ?_)
  | ((with_reducible show rdDivmod [.int _, .int _] _ _); refine dm_int (by first | decide | assumption | omega) (by first | decide | assumption | omega) ?_)
  | ((with_reducible show @ite _ (_ = true) _ _ _); first | refine ifYes (by first | with_reducible rfl | exact Bool.not_false | assumption) ?_ | refine ifNo (by first | with_reducible rfl | exact Bool.not_true | assumption) ?_)
  | ((with_reducible show ∃ _, _ ∧ _); refine ⟨_, celL_of (by bv_omega), ?_⟩)
  | ((with_reducible show ∃ _ _ _ _, _ ∧ _ ∧ _ ∧ _ ∧ _); refine ⟨_, _, _, _, rfl, rfl, by bv_omega, by rfl, ?_⟩)
  | ((with_reducible show (_ : Nat) ≤ sizeLine ∧ _); refine ⟨by rw [sizeLine_eq]; exact Nat.le_of_ble_eq_true rfl, ?_⟩))
local macro_rules | `(tactic| infer_instance) => `(tactic| ((repeat symm); try dsimp only))
local macro_rules | `(tactic| ac_rfl) => `(tactic| ((repeat (first | symm | ((with_reducible show rdMod (.int _) (.int _) _ _); refine mod_any (by first | decide | assumption | omega) ?_; intro _ _ _))); try dsimp only))
theorem lk_way {size : Int} {r : Rule} {hs : List Host} : (fieldsD size r hs).lookup ("_way" : Str) = none := by rfl
theorem lk_walk {size : Int} {r : Rule} {hs : List Host} : (fieldsD size r hs).lookup ("walk" : Str) = none := by rfl
theorem lk_keepers {size : Int} {r : Rule} {hs : List Host} : (fieldsD size r hs).lookup ("keepers" : Str) = none := by rfl
theorem kp_Ring_points (C : Addr) : Keeps N_Ring_points 1 (sd_Ring_points C) (db_Ring_points C) := by
  rintro ds M q ex hl ⟨size, r, hs, rfl, h⟩
  show db_Ring_points C _ [some (ringD C size r hs)] M
  unfold db_Ring_points
  infer_instance
  refine fld_ring lk_points ?_
  exact h
theorem kp_Ring_factor (C : Addr) : Keeps N_Ring_factor 1 (sd_Ring_factor C) (db_Ring_factor C) := by
  rintro ds M q ex hl ⟨size, r, hs, rfl, h⟩
  show db_Ring_factor C _ [some (ringD C size r hs)] M
  unfold db_Ring_factor
  infer_instance
  refine fld_ring lk_factor ?_
  exact h
theorem kp_Ring_spread (C : Addr) : Keeps N_Ring_spread 1 (sd_Ring_spread C) (db_Ring_spread C) := by
  rintro ds M q ex hl ⟨size, r, hs, rfl, h⟩
  show db_Ring_spread C _ [some (ringD C size r hs)] M
  unfold db_Ring_spread
  infer_instance
  refine fld_ring lk_spread ?_
  exact h
theorem kp_Ring_hosts (C : Addr) : Keeps N_Ring_hosts 1 (sd_Ring_hosts C) (db_Ring_hosts C) := by
  rintro ds M q ex hl ⟨size, r, hs, rfl, h⟩
  show db_Ring_hosts C _ [some (ringD C size r hs)] M
  unfold db_Ring_hosts
  infer_instance
  refine fld_ring lk_hosts ?_
  exact h
theorem kp_check_point (C : Addr) : Keeps N_check_point 2 (sd_check_point C) (db_check_point C) := by
  rintro ds M q ex hl ⟨size, r, hs, p, rfl, p0, p1, h⟩
  show db_check_point C _ [some (ringD C size r hs), some (.int p)] M
  unfold db_check_point
  infer_instance
  refine ⟨_, fs_ring, size, r, hs, rfl, ?_⟩
  infer_instance
  refine ⟨p, 0, size - 1, rfl, ?_⟩
  rw [decide_eq_true (show 0 ≤ p ∧ p ≤ size - 1 by omega)]
  infer_instance
  exact h
theorem mod_inj {size p a b : Int} (ha : 0 ≤ a ∧ a < size) (hb : 0 ≤ b ∧ b < size) (e : (a - p) % size = (b - p) % size) : a = b := by
  have e1 : (a - p - (b - p)) % size = 0 := by rw [Int.sub_emod, e, Int.sub_self, Int.zero_emod]
  have e2 : a - p - (b - p) = a - b := by omega
  rw [e2] at e1
  obtain ⟨k, hk⟩ := Int.dvd_of_emod_eq_zero e1
  have h1 : -size < size * k := by omega
  have h2 : size * k < size := by omega
  have hs : 0 < size := by omega
  have k0 : k = 0 := by
    rcases Int.lt_trichotomy k 0 with h | h | h
    · exfalso
      have : size * k ≤ size * (-1) := Int.mul_le_mul_of_nonneg_left (by omega) (by omega)
      omega
    · exact h
    · exfalso
      have : size * 1 ≤ size * k := Int.mul_le_mul_of_nonneg_left (by omega) (by omega)
      omega
  rw [k0, Int.mul_zero] at hk
  omega
theorem way_apart {size p : Int} {hs : List Host} (hc : CrewOk size hs) {o o' : Host} (ho : o ∈ hs) (ho' : o' ∈ hs) {m : Int} (h : IsWay size p o.marks m) (h' : IsWay size p o'.marks m) : o = o' := by
  obtain ⟨a, ha, ea⟩ := List.mem_map.mp h.1
  obtain ⟨b, hb, eb⟩ := List.mem_map.mp h'.1
  have : a = b := mod_inj ((crew_marks hc o ho).inn a ha) ((crew_marks hc o' ho').inn b hb) (ea.trans eb.symm)
  subst this
  exact crew_apart hc ho ho' ha hb
theorem kp_Ring_walk (C : Addr) : Keeps N_Ring_walk 2 (sd_Ring_walk C) (db_Ring_walk C) := by
  rintro ds M q ex hl ⟨size, r, hs, p, rfl, hc, p0, p1, h⟩
  show db_Ring_walk C _ [some (ringD C size r hs), some (.int p), none, none, none, none] M
  unfold db_Ring_walk
  infer_instance
  refine ⟨size, r, hs, p, rfl, p0, p1, ?_⟩
  infer_instance
  refine fld_ring lk_hosts ?_
  infer_instance
  intro c hcn
  refine lc_lst (fun i M' => ∃ ws : List (Int × Str), M' = mset M c (.ls (ws.map DL.pairD)) ∧ ws.map (·.2) = (hs.take i).map (·.name) ∧ ∀ a ∈ ws, ∃ h ∈ hs, h.name = a.2 ∧ IsWay size p h.marks a.1) ?_ ?_ _ ⟨[], rfl, rfl, fun a ha => by simp at ha⟩
  · rintro M' ⟨ws, rfl, hw, ha⟩
    rw [List.length_map, List.take_length] at hw
    refine ⟨rfl, _, mset_same, ?_⟩
    rw [mdel_mset hcn]
    infer_instance
    refine ⟨_, _, ws, rfl, rfl, pairsD_map ws, fun a ma b mb e => ?_, fun ps' hp hs' => ?_⟩
    · obtain ⟨o, mo, eo, wo⟩ := ha a ma
      obtain ⟨o', mo', eo', wo'⟩ := ha b mb
      rw [e] at wo
      have := way_apart hc mo mo' wo wo'
      rw [← eo, ← eo', this]
    · infer_instance
      intro c2 hc2
      have hlen : ps'.length ≤ 12 := by
        rw [hp.length_eq]
        have := congrArg List.length hw
        rw [List.length_map, List.length_map] at this
        have := hc.few
        omega
      refine lc_pure (fun _ => true) (fun d => match d with | .tup [_, b] => b | d => d) hc2 (by rw [List.length_map, sizeLine_eq]; omega) (fun _ => rfl) (fun y hy acc hz nx hyes _ => ?_) ?_
      · obtain ⟨⟨a1, a2⟩, ma, rfl⟩ := List.mem_map.mp hy
        unfold DL.pairD at hyes ⊢
        infer_instance
        exact acc_put hz (hyes rfl)
      · have e : ((ps'.map DL.pairD).filter (fun _ => true)).map (fun d => match d with | .tup [_, b] => b | d => d) = (ps'.map (·.2)).map D.str := by
          rw [List.filter_eq_self.mpr (fun _ _ => rfl), List.map_map, List.map_map]; rfl
        rw [e]
        infer_instance
        refine ⟨_, _, rfl, rfl, ?_⟩
        refine h _ ⟨ps', hs', rfl, ?_, fun a m => ha a (hp.mem_iff.mp m)⟩
        have := hp.map (·.2)
        rw [hw] at this
        exact this
  · rintro i x M' hx ⟨ws, rfl, hw, ha⟩ nx hnx
    refine ⟨rfl, ?_⟩
    rw [List.getElem?_map] at hx
    obtain ⟨o, ho, rfl⟩ := omap hx
    have hi := (List.getElem?_eq_some_iff.mp ho).1
    have hmem := List.mem_of_getElem? ho
    have hm := crew_marks hc o hmem
    have h12 := hc.few
    have hwl : ws.length ≤ 12 := by
      have := congrArg List.length hw
      rw [List.length_map, List.length_map, List.length_take] at this
      omega
    infer_instance
    refine ⟨_, fs_ring, lk_way, ?_⟩
    infer_instance
    refine ⟨size, r, hs, p, o.marks, rfl, by omega, hm.ne, hm.few, fun m hm => ?_⟩
    infer_instance
    refine acc_put (by rw [List.length_map, sizeLine_eq]; omega) (hnx _ ⟨ws ++ [(m, o.name)], by rw [List.map_append]; rfl, ?_, fun a ma => ?_⟩)
    · rw [List.map_append, hw, List.take_succ, ho, List.map_append]
      rfl
    · rcases List.mem_append.mp ma with ma | ma
      · exact ha a ma
      · rw [List.mem_singleton.mp ma]; exact ⟨o, hmem, rfl, hm⟩
end R
set_option maxRecDepth 100000
set_option maxHeartbeats 1000000
namespace R
open PySem PySem.Spec PyProof.Rows L2 DL
local macro_rules | `(tactic| bv_omega) => `(tactic| first | assumption | exact mset_same)
local macro_rules | `(tactic| symm) => `(tactic| first
  | ((with_reducible show ∃ _, _ = _ ∧ _); refine ⟨_, rfl, ?_⟩)
  | ((with_reducible show _ = _ ∧ _); refine ⟨rfl, ?_⟩)
  | ((with_reducible show ∃ _ _, _ = _ ∧ _ = _ ∧ _); refine ⟨_, _, rfl, rfl, ?_⟩)
  | ((with_reducible show ∃ _ _, _ = _ ∧ _); refine ⟨_, _, rfl, ?_⟩)
  | ((with_reducible show ∃ _ _ _, _ = _ ∧ _); refine ⟨_, _, _, rfl, ?_⟩)
  | ((with_reducible show (_ ≤ _ ∧ _) ∧ _); refine ⟨by omega, ?_⟩)
  | with_reducible refine add_int ?_ | with_reducible refine sub_int ?_
  | with_reducible refine lt_int ?_ | with_reducible refine le_int ?_ | with_reducible refine gt_int ?_ | with_reducible refine ge_int ?_
  | with_reducible refine int_int ?_
  | with_reducible refine eq_int ?_ | with_reducible refine ne_int ?_
  | with_reducible refine len_tup ?_ | with_reducible refine len_lst ?_
  | ((with_reducible show rdIx (.cel _) (.int _) _ _); refine ix_cel (by bv_omega) (by rfl) ?_)
  | ((with_reducible show rdIx (.lst _) (.int _) _ _); refine ix_lst (by rfl) ?_)
  | ((with_reducible show rdIx (.tup _) (.int _) _ _); refine ix_tup (by rfl) ?_)
  | ((with_reducible show rdLen [.cel _] _ _); refine len_cel (by bv_omega) ?_)
  | ((with_reducible show rdMul (.int _) (.int _) _ _); first | refine mul_l (by decide) (by decide) ?_ | refine mul_r (by decide) (by decide) ?_ | refine mul_l (by omega) (by omega) ?_ | refine mul_r (by omega) (by omega) ?_)
  | ((with_reducible show rdDiv (.int _) (.int _) _ _); refine div_int (by first | decide | assumption | omega) (by first | decide | assumption | omega) ?_)
  | ((with_reducible show rdDivmod [.int _, .int _] _ _); refine dm_int (by first | decide | assumption | omega) (by first | decide | assumption | omega) ?_)
  | ((with_reducible show @ite _ (_ = true) _ _ _); first | refine ifYes (by first | with_reducible rfl | exact Bool.not_false | assumption) ?_ | refine ifNo (by first | with_reducible rfl | exact Bool.not_true | assumption) ?_)
  | ((with_reducible show ∃ _, _ ∧ _); refine ⟨_, celL_of (by bv_omega), ?_⟩)
  | ((with_reducible show ∃ _ _ _ _, _ ∧ _ ∧ _ ∧ _ ∧ _); refine ⟨_, _, _, _, rfl, rfl, by bv_omega, by rfl, ?_⟩)
  | ((with_reducible show (_ : Nat) ≤ sizeLine ∧ _); refine ⟨by rw [sizeLine_eq]; exact Nat.le_of_ble_eq_true rfl, ?_⟩))
local macro_rules | `(tactic| infer_instance) => `(tactic| ((repeat symm); try dsimp only))
local macro_rules | `(tactic| ac_rfl) => `(tactic| ((repeat (first | symm | ((with_reducible show rdMod (.int _) (.int _) _ _); refine mod_any (by first | decide | assumption | omega) ?_; intro _ _ _))); try dsimp only))
theorem kg_put {M : Mem} {k c : Addr} {g : Int} {x : Cel} (h : Kg M k g) (n : M c = none) : Kg (mset M c x) k g := by
  obtain ⟨a, b, d, h3, h⟩ := h
  exact ⟨a, b, d, by rw [mset_ne (fun e => by rw [e, n] at h3; cases h3)]; exact h3, h⟩
end R
set_option maxRecDepth 100000
set_option maxHeartbeats 1000000
namespace R
open PySem PySem.Spec PyProof.Rows L2 DL
local macro_rules | `(tactic| bv_omega) => `(tactic| first | assumption | exact mset_same)
local macro_rules | `(tactic| symm) => `(tactic| first
  | ((with_reducible show ∃ _, _ = _ ∧ _); refine ⟨_, rfl, ?_⟩)
  | ((with_reducible show _ = _ ∧ _); refine ⟨rfl, ?_⟩)
  | ((with_reducible show ∃ _ _, _ = _ ∧ _ = _ ∧ _); refine ⟨_, _, rfl, rfl, ?_⟩)
  | ((with_reducible show ∃ _ _, _ = _ ∧ _); refine ⟨_, _, rfl, ?_⟩)
  | ((with_reducible show ∃ _ _ _, _ = _ ∧ _); refine ⟨_, _, _, rfl, ?_⟩)
  | ((with_reducible show (_ ≤ _ ∧ _) ∧ _); refine ⟨by omega, ?_⟩)
  | with_reducible refine add_int ?_ | with_reducible refine sub_int ?_
  | with_reducible refine lt_int ?_ | with_reducible refine le_int ?_ | with_reducible refine gt_int ?_ | with_reducible refine ge_int ?_
  | with_reducible refine int_int ?_
  | with_reducible refine eq_int ?_ | with_reducible refine ne_int ?_
  | with_reducible refine len_tup ?_ | with_reducible refine len_lst ?_
  | ((with_reducible show rdIx (.cel _) (.int _) _ _); refine ix_cel (by bv_omega) (by rfl) ?_)
  | ((with_reducible show rdIx (.lst _) (.int _) _ _); refine ix_lst (by rfl) ?_)
  | ((with_reducible show rdIx (.tup _) (.int _) _ _); refine ix_tup (by rfl) ?_)
  | ((with_reducible show rdLen [.cel _] _ _); refine len_cel (by bv_omega) ?_)
  | ((with_reducible show rdMul (.int _) (.int _) _ _); first | refine mul_l (by decide) (by decide) ?_ | refine mul_r (by decide) (by decide) ?_ | refine mul_l (by omega) (by omega) ?_ | refine mul_r (by omega) (by omega) ?_)
  | ((with_reducible show rdDiv (.int _) (.int _) _ _); refine div_int (by first | decide | assumption | omega) (by first | decide | assumption | omega) ?_)
  | ((with_reducible show rdDivmod [.int _, .int _] _ _); refine dm_int (by first | decide | assumption | omega) (by first | decide | assumption | omega) ?_)
  | ((with_reducible show @ite _ (_ = true) _ _ _); first | refine ifYes (by first | with_reducible rfl | exact Bool.not_false | assumption) ?_ | refine ifNo (by first | with_reducible rfl | exact Bool.not_true | assumption) ?_)
  | ((with_reducible show ∃ _, _ ∧ _); refine ⟨_, celL_of (by bv_omega), ?_⟩)
  | ((with_reducible show ∃ _ _ _ _, _ ∧ _ ∧ _ ∧ _ ∧ _); refine ⟨_, _, _, _, rfl, rfl, by bv_omega, by rfl, ?_⟩)
  | ((with_reducible show (_ : Nat) ≤ sizeLine ∧ _); refine ⟨by rw [sizeLine_eq]; exact Nat.le_of_ble_eq_true rfl, ?_⟩))
local macro_rules | `(tactic| infer_instance) => `(tactic| ((repeat symm); try dsimp only))
local macro_rules | `(tactic| ac_rfl) => `(tactic| ((repeat (first | symm | ((with_reducible show rdMod (.int _) (.int _) _ _); refine mod_any (by first | decide | assumption | omega) ?_; intro _ _ _))); try dsimp only))
theorem getK_set {s : List (Key × D)} {k k' : Key} {v : D} : getK (setK s k v) k' = if k = k' then some v else getK s k' := by
  unfold setK
  by_cases ha : (s.any fun kv => decide (kv.1 = k)) = true
  · rw [if_pos ha]
    induction s with
    | nil => simp at ha
    | cons x xs ih =>
      obtain ⟨xk, xv⟩ := x
      rw [List.map_cons]
      by_cases e : xk = k
      · subst e
        rw [if_pos rfl]
        by_cases e2 : xk = k'
        · subst e2; rw [if_pos rfl]; simp [getK, List.find?_cons]
        · rw [if_neg e2]
          have h1 : ∀ (v : D) (r : List (Key × D)), getK ((xk, v) :: r) k' = getK r k' := fun v r => by simp [getK, List.find?_cons, e2]
          rw [h1, h1]
          by_cases hb : (xs.any fun kv => decide (kv.1 = xk)) = true
          · have := ih hb
            rw [if_neg e2] at this
            exact this
          · have : (xs.map fun kv => if kv.1 = xk then (kv.1, v) else kv) = xs := by
              conv => rhs; rw [← List.map_id xs]
              refine List.map_congr_left fun kv hkv => ?_
              have : ¬ kv.1 = xk := fun z => hb (List.any_eq_true.mpr ⟨kv, hkv, decide_eq_true z⟩)
              rw [if_neg this]; rfl
            rw [this]
      · rw [if_neg e]
        have hb : (xs.any fun kv => decide (kv.1 = k)) = true := by
          rw [List.any_cons, Bool.or_eq_true] at ha
          rcases ha with h | h
          · exact absurd (of_decide_eq_true h) e
          · exact h
        by_cases e2 : xk = k'
        · subst e2
          rw [if_neg (Ne.symm e)]
          simp [getK, List.find?_cons]
        · have h1 : ∀ (r : List (Key × D)), getK ((xk, xv) :: r) k' = getK r k' := fun r => by simp [getK, List.find?_cons, e2]
          rw [h1, h1]
          exact ih hb
  · rw [if_neg ha]
    have hn : getK s k = none := by
      unfold getK
      have : s.find? (fun kv => decide (kv.1 = k)) = none := by
        rw [List.find?_eq_none]
        intro x hx hd
        exact ha (List.any_eq_true.mpr ⟨x, hx, hd⟩)
      rw [this]; rfl
    unfold getK at hn ⊢
    rw [List.find?_append]
    by_cases e : k = k'
    · subst e
      rw [if_pos rfl]
      cases hh : s.find? (fun kv => decide (kv.1 = k)) with
      | none => simp [List.find?_cons]
      | some x => rw [hh] at hn; cases hn
    · rw [if_neg e]
      cases hh : s.find? (fun kv => decide (kv.1 = k')) with
      | none => simp [List.find?_cons, e]
      | some x => rfl
theorem setK_len {s : List (Key × D)} {k : Key} {v : D} : (setK s k v).length ≤ s.length + 1 := by
  unfold setK
  split
  · rw [List.length_map]; omega
  · rw [List.length_append, List.length_singleton]; omega
end R
set_option maxRecDepth 100000
set_option maxHeartbeats 1000000
namespace R
open PySem PySem.Spec PyProof.Rows L2 DL
local macro_rules | `(tactic| bv_omega) => `(tactic| first | assumption | exact mset_same)
local macro_rules | `(tactic| symm) => `(tactic| first
  | ((with_reducible show ∃ _, _ = _ ∧ _); refine ⟨_, rfl, ?_⟩)
  | ((with_reducible show _ = _ ∧ _); refine ⟨rfl, ?_⟩)
  | ((with_reducible show ∃ _ _, _ = _ ∧ _ = _ ∧ _); refine ⟨_, _, rfl, rfl, ?_⟩)
  | ((with_reducible show ∃ _ _, _ = _ ∧ _); refine ⟨_, _, rfl, ?_⟩)
  | ((with_reducible show ∃ _ _ _, _ = _ ∧ _); refine ⟨_, _, _, rfl, ?_⟩)
  | ((with_reducible show (_ ≤ _ ∧ _) ∧ _); refine ⟨by omega, ?_⟩)
  | with_reducible refine add_int ?_ | with_reducible refine sub_int ?_
  | with_reducible refine lt_int ?_ | with_reducible refine le_int ?_ | with_reducible refine gt_int ?_ | with_reducible refine ge_int ?_
  | with_reducible refine int_int ?_
  | with_reducible refine eq_int ?_ | with_reducible refine ne_int ?_
  | with_reducible refine len_tup ?_ | with_reducible refine len_lst ?_
  | ((with_reducible show rdIx (.cel _) (.int _) _ _); refine ix_cel (by bv_omega) (by rfl) ?_)
  | ((with_reducible show rdIx (.lst _) (.int _) _ _); refine ix_lst (by rfl) ?_)
  | ((with_reducible show rdIx (.tup _) (.int _) _ _); refine ix_tup (by rfl) ?_)
  | ((with_reducible show rdLen [.cel _] _ _); refine len_cel (by bv_omega) ?_)
  | ((with_reducible show rdMul (.int _) (.int _) _ _); first | refine mul_l (by decide) (by decide) ?_ | refine mul_r (by decide) (by decide) ?_ | refine mul_l (by omega) (by omega) ?_ | refine mul_r (by omega) (by omega) ?_)
  | ((with_reducible show rdDiv (.int _) (.int _) _ _); refine div_int (by first | decide | assumption | omega) (by first | decide | assumption | omega) ?_)
  | ((with_reducible show rdDivmod [.int _, .int _] _ _); refine dm_int (by first | decide | assumption | omega) (by first | decide | assumption | omega) ?_)
  | ((with_reducible show @ite _ (_ = true) _ _ _); first | refine ifYes (by first | with_reducible rfl | exact Bool.not_false | assumption) ?_ | refine ifNo (by first | with_reducible rfl | exact Bool.not_true | assumption) ?_)
  | ((with_reducible show ∃ _, _ ∧ _); refine ⟨_, celL_of (by bv_omega), ?_⟩)
  | ((with_reducible show ∃ _ _ _ _, _ ∧ _ ∧ _ ∧ _ ∧ _); refine ⟨_, _, _, _, rfl, rfl, by bv_omega, by rfl, ?_⟩)
  | ((with_reducible show (_ : Nat) ≤ sizeLine ∧ _); refine ⟨by rw [sizeLine_eq]; exact Nat.le_of_ble_eq_true rfl, ?_⟩))
local macro_rules | `(tactic| infer_instance) => `(tactic| ((repeat symm); try dsimp only))
local macro_rules | `(tactic| ac_rfl) => `(tactic| ((repeat (first | symm | ((with_reducible show rdMod (.int _) (.int _) _ _); refine mod_any (by first | decide | assumption | omega) ?_; intro _ _ _))); try dsimp only))
theorem crew_nodup {size : Int} {hs : List Host} (h : CrewOk size hs) : (hs.map (·.name)).Nodup := by
  unfold List.Nodup
  rw [List.pairwise_map, List.pairwise_iff_getElem]
  intro i j hi hj hij e
  exact (h.each j _ (List.getElem?_eq_getElem hj)).fresh _ (mem_take (List.getElem?_eq_getElem hi) hij) e
theorem merge_no {k : Key} : ∀ {kvs acc : List (Key × D)}, k ∉ kvs.map (·.1) → getK (mergeD acc kvs) k = getK acc k
  | [], _, _ => rfl
  | (k', v) :: r, acc, h => by
    show getK (mergeD (setK acc k' v) r) k = _
    rw [merge_no fun z => h (List.mem_cons_of_mem _ z), getK_set, if_neg]
    rintro rfl
    exact h List.mem_cons_self
theorem merge_at {k : Key} {v : D} : ∀ {kvs acc : List (Key × D)}, (kvs.map (·.1)).Nodup → (k, v) ∈ kvs → getK (mergeD acc kvs) k = some v
  | [], _, _, h => by simp at h
  | (k', v') :: r, acc, hn, h => by
    obtain ⟨h1, h2⟩ := List.nodup_cons.mp hn
    show getK (mergeD (setK acc k' v') r) k = _
    rcases List.mem_cons.mp h with e | h
    · cases e
      rw [merge_no h1, getK_set, if_pos rfl]
    · exact merge_at h2 h
def bayL (hs : List Host) : List (Key × D) := hs.map fun o => (Sum.inr o.name, D.str o.rack)
theorem bays_at {size : Int} {hs : List Host} (hc : CrewOk size hs) {x : Str} (hx : x ∈ hs.map (·.name)) : getK (mergeD [] (bayL hs)) (.inr x) = some (.str (rackOf hs x)) := by
  obtain ⟨o, ho, rfl⟩ := List.mem_map.mp hx
  refine merge_at ?_ ?_
  · unfold bayL
    rw [List.map_map]
    have := crew_nodup hc
    unfold List.Nodup at this ⊢
    rw [List.pairwise_map] at this ⊢
    exact this.imp fun {a b} hab e => hab (Sum.inr.inj e)
  · rw [crew_rack hc ho]
    exact List.mem_map.mpr ⟨o, ho, rfl⟩
theorem firsts_in {hs : List Host} {ns : List Str} : ∀ n, (firstsN hs ns n).length ≤ n ∧ ∀ x ∈ firstsN hs ns n, x ∈ ns
  | 0 => ⟨Nat.le_refl _, fun x hx => by simp [firstsN] at hx⟩
  | n + 1 => by
    have ih := firsts_in (hs := hs) (ns := ns) n
    unfold firstsN
    split
    · rename_i x e
      split
      · exact ⟨by omega, ih.2⟩
      · refine ⟨by rw [List.length_append, List.length_singleton]; omega, fun y hy => ?_⟩
        rcases List.mem_append.mp hy with hy | hy
        · exact ih.2 y hy
        · rw [List.mem_singleton.mp hy]; exact List.mem_of_getElem? e
    · exact ⟨by omega, ih.2⟩
theorem kp_new_racks_first (C : Addr) : Keeps N_new_racks_first 2 (sd_new_racks_first C) (db_new_racks_first C) := by
  rintro ds M q ex hl ⟨size, r, hs, ns, rfl, hc, h12, hin, h⟩
  show db_new_racks_first C _ [some (ringD C size r hs), some (strsT ns), none, none, none, none, none, none, none] M
  unfold db_new_racks_first
  infer_instance
  refine ⟨_, fs_ring, size, r, hs, rfl, ?_⟩
  infer_instance
  intro cd hcd
  have hf := hc.few
  refine dc_lst (fun i M' => ∃ s : List (Key × D), M' = mset M cd (.dc s) ∧ s = mergeD [] (bayL (hs.take i)) ∧ s.length ≤ i) ?_ ?_ _ ⟨[], rfl, rfl, Nat.le_refl _⟩
  · rintro M' ⟨s, rfl, es, _⟩
    rw [List.length_map, List.take_length] at es
    refine ⟨rfl, ?_⟩
    have tab : ∀ x : Str, x ∈ ns → getK s (.inr x) = some (.str (rackOf hs x)) := fun x hx => by rw [es]; exact bays_at hc (hin x hx)
    have hcd' : (mset M cd (.dc s)) cd = some (.dc s) := mset_same
    have hK0 : Kept M (mset M cd (.dc s)) := Kept.new hcd
    generalize mset M cd (.dc s) = M0 at *
    infer_instance
    intro cr hcr
    infer_instance
    intro cf hcf
    infer_instance
    intro co hco
    have n1 : cf ≠ cr := fun e => by rw [e, mset_same] at hcf; cases hcf
    have n2 : co ≠ cf := fun e => by rw [e, mset_same] at hco; cases hco
    have n3 : co ≠ cr := fun e => by rw [e, mset_ne (Ne.symm n1), mset_same] at hco; cases hco
    have mcf : M0 cf = none := by rw [mset_ne n1] at hcf; exact hcf
    have mco : M0 co = none := by rw [mset_ne n2, mset_ne n3] at hco; exact hco
    infer_instance
    refine for_lst (fun i env M' => ∃ (seen fs os : List Str) (w6 w7 w8 : Option D), env = [some (ringD C size r hs), some (strsT ns), some (.cel cd), some (.cel cr), some (.cel cf), some (.cel co), w6, w7, w8] ∧
      M' cr = some (.ls (seen.map D.str)) ∧ M' cf = some (.ls (fs.map D.str)) ∧ M' co = some (.ls (os.map D.str)) ∧ splitR hs [] [] [] ns = splitR hs seen fs os (ns.drop i) ∧ seen.length ≤ i ∧ fs.length ≤ i ∧ os.length ≤ i ∧ Kept M0 M') ?_ ?_ _ _
      ⟨[], [], [], _, _, _, rfl, by rw [mset_ne (Ne.symm n3), mset_ne (Ne.symm n1), mset_same]; rfl, by rw [mset_ne (Ne.symm n2), mset_same]; rfl, mset_same, rfl, Nat.le_refl _, Nat.le_refl _, Nat.le_refl _, ((Kept.new hcr).put mcf).put mco⟩
    · rintro env M' ⟨seen, fs, os, w5, w6, w7, rfl, hR, hF, hO, hS, l1, l2, l3, hK⟩
      refine ⟨rfl, ?_⟩
      rw [List.length_map] at l1 l2 l3 hS
      infer_instance
      refine add_lst (celL_of hF) (celL_of hO) (by rw [List.length_map, List.length_map, sizeLine_eq]; omega) ?_
      infer_instance
      refine ⟨_, _, rfl, rfl, ?_⟩
      have e : newRacks hs ns = fs ++ os := by
        unfold newRacks
        rw [hS, List.drop_length]
        rfl
      rw [← List.map_append, ← e]
      exact h M' (hK0.trans hK)
    · rintro i x env M' hx ⟨seen, fs, os, w5, w6, w7, rfl, hR, hF, hO, hS, l1, l2, l3, hK⟩ nx hnx
      refine ⟨rfl, ?_⟩
      rw [List.getElem?_map] at hx
      obtain ⟨y, hy, rfl⟩ := omap hx
      have hi := (List.getElem?_eq_some_iff.mp hy).1
      have ed : ns.drop i = y :: ns.drop (i + 1) := by
        obtain ⟨p, e⟩ := List.getElem?_eq_some_iff.mp hy
        rw [List.drop_eq_getElem_cons p, e]
      rw [ed] at hS
      infer_instance
      refine ⟨cd, s, .inr y, _, rfl, hK cd _ hcd', rfl, tab y (List.mem_of_getElem? hy), ?_⟩
      infer_instance
      refine in_str (xs := seen) (celL_of hR) ?_
      infer_instance
      refine ifD (fun hb => ?_) (fun hb => ?_)
      · infer_instance
        refine ⟨co, _, rfl, hO, ?_⟩
        infer_instance
        refine ⟨_, _, rfl, hO, by rw [List.length_map, sizeLine_eq]; omega, ?_⟩
        refine hnx _ _ ⟨seen, fs, os ++ [y], _, _, _, rfl, by rw [mset_ne (Ne.symm n3)]; exact hR, by rw [mset_ne (Ne.symm n2)]; exact hF, by rw [mset_same, List.map_append]; rfl, ?_, by omega, by omega, by rw [List.length_append, List.length_singleton]; omega, hK.put mco⟩
        rw [hS]
        show (if rackOf hs y ∈ seen then _ else _) = _
        rw [if_pos hb]
      · infer_instance
        refine ⟨cr, _, rfl, hR, ?_⟩
        infer_instance
        refine ⟨_, _, rfl, hR, by rw [List.length_map, sizeLine_eq]; omega, ?_⟩
        infer_instance
        refine ⟨cf, _, rfl, by rw [mset_ne n1]; exact hF, ?_⟩
        infer_instance
        refine ⟨_, _, rfl, by rw [mset_ne n1]; exact hF, by rw [List.length_map, sizeLine_eq]; omega, ?_⟩
        refine hnx _ _ ⟨seen ++ [rackOf hs y], fs ++ [y], os, _, _, _, rfl, by rw [mset_ne (Ne.symm n1), mset_same, List.map_append]; rfl, by rw [mset_same, List.map_append]; rfl, by rw [mset_ne n2, mset_ne n3]; exact hO, ?_, by rw [List.length_append, List.length_singleton]; omega, by rw [List.length_append, List.length_singleton]; omega, by omega, (hK.put hcr).put mcf⟩
        rw [hS]
        show (if rackOf hs y ∈ seen then _ else _) = _
        rw [if_neg hb]
  · rintro i x M' hx ⟨s, rfl, es, hsl⟩ nx hnx
    refine ⟨rfl, ?_⟩
    rw [List.getElem?_map] at hx
    obtain ⟨o, ho, rfl⟩ := omap hx
    have hi := (List.getElem?_eq_some_iff.mp ho).1
    infer_instance
    refine ⟨s, .inr o.name, rfl, mset_same, by rw [sizeLine_eq]; omega, hnx _ ⟨_, by rw [mset_mset], ?_, ?_⟩⟩
    · rw [es, List.take_succ, ho]
      unfold bayL
      rw [List.map_append]
      have mapp : ∀ (a b acc : List (Key × D)), mergeD acc (a ++ b) = mergeD (mergeD acc a) b := by
        intro a
        induction a with
        | nil => intro b acc; rfl
        | cons x a ih => intro b acc; exact ih b _
      rw [mapp]
      rfl
    · exact Nat.le_trans setK_len (by omega)
theorem kp_keepers_in (C : Addr) : Keeps N_keepers_in 2 (sd_keepers_in C) (db_keepers_in C) := by
  rintro ds M q ex hl ⟨size, r, hs, ns, rfl, hc, hr, h12, hin, h⟩
  show db_keepers_in C _ [some (ringD C size r hs), some (strsT ns), none] M
  unfold db_keepers_in
  have hsp : PyData.strOk r.spread = true := by
    rcases hr.s with e | e <;> rw [e] <;> decide +kernel
  obtain ⟨w, hwd⟩ := Int.eq_ofNat_of_zero_le (show 0 ≤ r.wide by have := hr.w; omega)
  have last : ∀ (xs : List Str) (M' : Mem), Kept M M' → keepersOf r hs ns = xs.take w → dRet (dSl rdSl (dVar 2) dNo (dPart (dProp C (sd_Ring_factor C) (dVar 0)))) { nx := fun _ M' => q .non M', rt := q, ex := fun _ => ex } [some (ringD C size r hs), some (strsT ns), some (strsT xs)] M' := by
    intro xs M' hK e
    infer_instance
    refine ⟨_, fs_ring, size, r, hs, rfl, ?_⟩
    rw [hwd]
    infer_instance
    refine sl_tup (n := w) ?_
    rw [← List.map_take, ← e]
    exact h M' hK
  infer_instance
  refine ⟨_, fs_ring, size, r, hs, rfl, ?_⟩
  infer_instance
  refine eq_str hsp (by decide +kernel) ?_
  infer_instance
  refine ifD (fun e => ?_) (fun e => ?_)
  · infer_instance
    exact ⟨size, r, hs, ns, rfl, hc, h12, hin, fun M' hK => last (newRacks hs ns) M' hK (by unfold keepersOf; rw [if_pos e, hwd]; rfl)⟩
  · refine ⟨_, rfl, ?_⟩
    exact last ns M (Kept.refl M) (by unfold keepersOf; rw [if_neg e, hwd]; rfl)
theorem kp_Ring_keepers (C : Addr) : Keeps N_Ring_keepers 2 (sd_Ring_keepers C) (db_Ring_keepers C) := by
  rintro ds M q ex hl ⟨size, r, hs, p, rfl, hc, hr, p0, p1, h⟩
  show db_Ring_keepers C _ [some (ringD C size r hs), some (.int p)] M
  unfold db_Ring_keepers
  infer_instance
  refine ⟨_, fs_ring, lk_walk, ?_⟩
  infer_instance
  refine ⟨size, r, hs, p, rfl, hc, p0, p1, fun ns hw => ?_⟩
  infer_instance
  have hlen : ns.length = hs.length := by
    obtain ⟨ws, _, rfl, pm, _⟩ := hw
    rw [pm.length_eq, List.length_map]
  refine ⟨size, r, hs, ns, rfl, hc, hr, by have := hc.few; omega, fun x hx => ?_, fun M' hK => h ns M' hw hK⟩
  obtain ⟨ws, _, rfl, pm, _⟩ := hw
  exact pm.mem_iff.mp hx
end R
set_option maxRecDepth 100000
set_option maxHeartbeats 1000000
namespace R
open PySem PySem.Spec PyProof.Rows L2 DL
local macro_rules | `(tactic| bv_omega) => `(tactic| first | assumption | exact mset_same)
local macro_rules | `(tactic| symm) => `(tactic| first
  | ((with_reducible show ∃ _, _ = _ ∧ _); refine ⟨_, rfl, ?_⟩)
  | ((with_reducible show _ = _ ∧ _); refine ⟨rfl, ?_⟩)
  | ((with_reducible show ∃ _ _, _ = _ ∧ _ = _ ∧ _); refine ⟨_, _, rfl, rfl, ?_⟩)
  | ((with_reducible show ∃ _ _, _ = _ ∧ _); refine ⟨_, _, rfl, ?_⟩)
  | ((with_reducible show ∃ _ _ _, _ = _ ∧ _); refine ⟨_, _, _, rfl, ?_⟩)
  | ((with_reducible show (_ ≤ _ ∧ _) ∧ _); refine ⟨by omega, ?_⟩)
  | with_reducible refine add_int ?_ | with_reducible refine sub_int ?_
  | with_reducible refine lt_int ?_ | with_reducible refine le_int ?_ | with_reducible refine gt_int ?_ | with_reducible refine ge_int ?_
  | with_reducible refine int_int ?_
  | with_reducible refine eq_int ?_ | with_reducible refine ne_int ?_
  | with_reducible refine len_tup ?_ | with_reducible refine len_lst ?_
  | ((with_reducible show rdIx (.cel _) (.int _) _ _); refine ix_cel (by bv_omega) (by rfl) ?_)
  | ((with_reducible show rdIx (.lst _) (.int _) _ _); refine ix_lst (by rfl) ?_)
  | ((with_reducible show rdIx (.tup _) (.int _) _ _); refine ix_tup (by rfl) ?_)
  | ((with_reducible show rdLen [.cel _] _ _); refine len_cel (by bv_omega) ?_)
  | ((with_reducible show rdMul (.int _) (.int _) _ _); first | refine mul_l (by decide) (by decide) ?_ | refine mul_r (by decide) (by decide) ?_ | refine mul_l (by omega) (by omega) ?_ | refine mul_r (by omega) (by omega) ?_)
  | ((with_reducible show rdDiv (.int _) (.int _) _ _); refine div_int (by first | decide | assumption | omega) (by first | decide | assumption | omega) ?_)
  | ((with_reducible show rdDivmod [.int _, .int _] _ _); refine dm_int (by first | decide | assumption | omega) (by first | decide | assumption | omega) ?_)
  | ((with_reducible show @ite _ (_ = true) _ _ _); first | refine ifYes (by first | with_reducible rfl | exact Bool.not_false | assumption) ?_ | refine ifNo (by first | with_reducible rfl | exact Bool.not_true | assumption) ?_)
  | ((with_reducible show ∃ _, _ ∧ _); refine ⟨_, celL_of (by bv_omega), ?_⟩)
  | ((with_reducible show ∃ _ _ _ _, _ ∧ _ ∧ _ ∧ _ ∧ _); refine ⟨_, _, _, _, rfl, rfl, by bv_omega, by rfl, ?_⟩)
  | ((with_reducible show (_ : Nat) ≤ sizeLine ∧ _); refine ⟨by rw [sizeLine_eq]; exact Nat.le_of_ble_eq_true rfl, ?_⟩))
local macro_rules | `(tactic| infer_instance) => `(tactic| ((repeat symm); try dsimp only))
local macro_rules | `(tactic| ac_rfl) => `(tactic| ((repeat (first | symm | ((with_reducible show rdMod (.int _) (.int _) _ _); refine mod_any (by first | decide | assumption | omega) ?_; intro _ _ _))); try dsimp only))
/-- all that splitR is at the i-th name -/
theorem split_inv {hs : List Host} {ns : List Str} : ∀ i, i ≤ ns.length → ∃ seen os, splitR hs [] [] [] ns = splitR hs seen (firstsN hs ns i) os (ns.drop i) ∧ (∀ x, x ∈ seen ↔ x ∈ (ns.take i).map (rackOf hs)) ∧ (ns.Nodup → os = (ns.take i).filter fun x => !decide (x ∈ firstsN hs ns i))
  | 0, _ => ⟨[], [], rfl, fun x => by simp, fun _ => by simp⟩
  | i + 1, hi => by
    obtain ⟨seen, os, e, h1, h2⟩ := split_inv (hs := hs) (ns := ns) i (by omega)
    have hlt : i < ns.length := by omega
    have hx : ns[i]? = some ns[i] := List.getElem?_eq_getElem hlt
    rw [List.drop_eq_getElem_cons hlt] at e
    have et : ns.take (i + 1) = ns.take i ++ [ns[i]] := by rw [List.take_succ, hx]; rfl
    have step : firstsN hs ns (i + 1) = if rackOf hs ns[i] ∈ (ns.take i).map (rackOf hs) then firstsN hs ns i else firstsN hs ns i ++ [ns[i]] := by
      show (match ns[i]? with | some x => _ | none => _) = _
      rw [hx]
    have hfr : ns.Nodup → ns[i] ∉ ns.take i := fun hn hm => by
      obtain ⟨a, ha⟩ := List.getElem?_of_mem hm
      have hal : a < i := by
        have := (List.getElem?_eq_some_iff.mp ha).1
        rw [List.length_take] at this; omega
      rw [List.getElem?_take, if_pos hal] at ha
      obtain ⟨p1, q1⟩ := List.getElem?_eq_some_iff.mp ha
      exact (List.pairwise_iff_getElem.mp hn a i p1 hlt hal) q1
    have hff : ∀ x ∈ firstsN hs ns i, x ∈ ns.take i := by
      clear e h1 h2 hx et step hfr
      induction i with
      | zero => intro x hx; simp [firstsN] at hx
      | succ j ih =>
        intro x hx
        have hj : j < ns.length := by omega
        have ej : ns.take (j + 1) = ns.take j ++ [ns[j]] := by rw [List.take_succ, List.getElem?_eq_getElem hj]; rfl
        rw [ej]
        unfold firstsN at hx
        rw [List.getElem?_eq_getElem hj] at hx
        dsimp only at hx
        split at hx
        · exact List.mem_append.mpr (.inl (ih (by omega) hj x hx))
        · rcases List.mem_append.mp hx with hx | hx
          · exact List.mem_append.mpr (.inl (ih (by omega) hj x hx))
          · exact List.mem_append.mpr (.inr hx)
    by_cases hb : rackOf hs ns[i] ∈ seen
    · rw [if_pos ((h1 _).mp hb)] at step
      refine ⟨seen, os ++ [ns[i]], ?_, fun x => ?_, fun hn => ?_⟩
      · rw [e, step]
        show (if rackOf hs ns[i] ∈ seen then _ else _) = _
        rw [if_pos hb]
      · rw [et, List.map_append, List.mem_append, ← h1]
        constructor
        · exact .inl
        · rintro (h | h)
          · exact h
          · rw [List.mem_singleton.mp h]; exact hb
      · rw [et, List.filter_append, h2 hn, step]
        have : ns[i] ∉ firstsN hs ns i := fun z => hfr hn (hff _ z)
        simp [this]
    · have hb2 : ¬ rackOf hs ns[i] ∈ (ns.take i).map (rackOf hs) := fun z => hb ((h1 _).mpr z)
      rw [if_neg hb2] at step
      refine ⟨seen ++ [rackOf hs ns[i]], os, ?_, fun x => ?_, fun hn => ?_⟩
      · rw [e, step]
        show (if rackOf hs ns[i] ∈ seen then _ else _) = _
        rw [if_neg hb]
      · rw [et, List.map_append, List.mem_append, List.mem_append, ← h1]
        rfl
      · rw [et, List.filter_append, h2 hn, step]
        have e1 : (ns.take i).filter (fun x => !decide (x ∈ firstsN hs ns i ++ [ns[i]])) = (ns.take i).filter (fun x => !decide (x ∈ firstsN hs ns i)) := by
          refine List.filter_congr fun x hx => ?_
          have : x ≠ ns[i] := fun z => hfr hn (z ▸ hx)
          simp [this]
        rw [e1]
        simp
theorem keep_same {r : Rule} {hs : List Host} {ns : List Str} (hr : RuleOk r) (hn : ns.Nodup) : keepL r hs ns = keepersOf r hs ns := by
  unfold keepL keepersOf
  rcases hr.s with e | e
  · rw [if_pos e, if_neg (by rw [e]; decide +kernel)]
  · rw [if_neg (by rw [e]; decide +kernel), if_pos e]
    obtain ⟨seen, os, e1, _, h2⟩ := split_inv (hs := hs) (ns := ns) ns.length (Nat.le_refl _)
    have h3 := h2 hn
    rw [List.take_length] at h3
    have e2 : newRacks hs ns = firstsN hs ns ns.length ++ os := by
      unfold newRacks
      rw [e1, List.drop_length]
      rfl
    rw [e2]
    generalize firstsN hs ns ns.length = fs at *
    by_cases h : r.wide.toNat ≤ fs.length
    · rw [List.take_append_of_le_length (by rw [List.length_take]; omega), List.take_append_of_le_length h, List.take_take, Nat.min_self]
    · have ht : fs.take r.wide.toNat = fs := List.take_of_length_le (by omega)
      rw [ht, ← h3]
/-- the way of the host with this name -/
theorem way_uniq {size p : Int} {ms : List Int} {a b : Int} (h : IsWay size p ms a) (h' : IsWay size p ms b) : a = b := by
  have := h.2 b h'.1
  have := h'.2 a h.1
  omega
theorem sorted_uniq {α : Type} {W : α → Int} : ∀ {xs ys : List α}, xs.Perm ys → xs.Pairwise (fun a b => W a < W b) → ys.Pairwise (fun a b => W a < W b) → xs = ys
  | [], ys, hp, _, _ => (List.nil_perm.mp hp).symm
  | x :: xs, [], hp, _, _ => absurd hp.length_eq (by simp)
  | x :: xs, y :: ys, hp, h1, h2 => by
    obtain ⟨a1, a2⟩ := List.pairwise_cons.mp h1
    obtain ⟨b1, b2⟩ := List.pairwise_cons.mp h2
    have e : x = y := by
      have mx : x ∈ y :: ys := hp.mem_iff.mp List.mem_cons_self
      have my : y ∈ x :: xs := hp.mem_iff.mpr List.mem_cons_self
      rcases List.mem_cons.mp mx with e | mx
      · exact e
      · rcases List.mem_cons.mp my with e | my
        · exact e.symm
        · have := b1 x mx
          have := a1 y my
          omega
    subst e
    rw [sorted_uniq (List.Perm.cons_inv hp) a2 b2]
end R
set_option maxRecDepth 100000
set_option maxHeartbeats 1000000
namespace R
open PySem PySem.Spec PyProof.Rows L2 DL
local macro_rules | `(tactic| bv_omega) => `(tactic| first | assumption | exact mset_same)
local macro_rules | `(tactic| symm) => `(tactic| first
  | ((with_reducible show ∃ _, _ = _ ∧ _); refine ⟨_, rfl, ?_⟩)
  | ((with_reducible show _ = _ ∧ _); refine ⟨rfl, ?_⟩)
  | ((with_reducible show ∃ _ _, _ = _ ∧ _ = _ ∧ _); refine ⟨_, _, rfl, rfl, ?_⟩)
  | ((with_reducible show ∃ _ _, _ = _ ∧ _); refine ⟨_, _, rfl, ?_⟩)
  | ((with_reducible show ∃ _ _ _, _ = _ ∧ _); refine ⟨_, _, _, rfl, ?_⟩)
  | ((with_reducible show (_ ≤ _ ∧ _) ∧ _); refine ⟨by omega, ?_⟩)
  | with_reducible refine add_int ?_ | with_reducible refine sub_int ?_
  | with_reducible refine lt_int ?_ | with_reducible refine le_int ?_ | with_reducible refine gt_int ?_ | with_reducible refine ge_int ?_
  | with_reducible refine int_int ?_
  | with_reducible refine eq_int ?_ | with_reducible refine ne_int ?_
  | with_reducible refine len_tup ?_ | with_reducible refine len_lst ?_
  | ((with_reducible show rdIx (.cel _) (.int _) _ _); refine ix_cel (by bv_omega) (by rfl) ?_)
  | ((with_reducible show rdIx (.lst _) (.int _) _ _); refine ix_lst (by rfl) ?_)
  | ((with_reducible show rdIx (.tup _) (.int _) _ _); refine ix_tup (by rfl) ?_)
  | ((with_reducible show rdLen [.cel _] _ _); refine len_cel (by bv_omega) ?_)
  | ((with_reducible show rdMul (.int _) (.int _) _ _); first | refine mul_l (by decide) (by decide) ?_ | refine mul_r (by decide) (by decide) ?_ | refine mul_l (by omega) (by omega) ?_ | refine mul_r (by omega) (by omega) ?_)
  | ((with_reducible show rdDiv (.int _) (.int _) _ _); refine div_int (by first | decide | assumption | omega) (by first | decide | assumption | omega) ?_)
  | ((with_reducible show rdDivmod [.int _, .int _] _ _); refine dm_int (by first | decide | assumption | omega) (by first | decide | assumption | omega) ?_)
  | ((with_reducible show @ite _ (_ = true) _ _ _); first | refine ifYes (by first | with_reducible rfl | exact Bool.not_false | assumption) ?_ | refine ifNo (by first | with_reducible rfl | exact Bool.not_true | assumption) ?_)
  | ((with_reducible show ∃ _, _ ∧ _); refine ⟨_, celL_of (by bv_omega), ?_⟩)
  | ((with_reducible show ∃ _ _ _ _, _ ∧ _ ∧ _ ∧ _ ∧ _); refine ⟨_, _, _, _, rfl, rfl, by bv_omega, by rfl, ?_⟩)
  | ((with_reducible show (_ : Nat) ≤ sizeLine ∧ _); refine ⟨by rw [sizeLine_eq]; exact Nat.le_of_ble_eq_true rfl, ?_⟩))
local macro_rules | `(tactic| infer_instance) => `(tactic| ((repeat symm); try dsimp only))
local macro_rules | `(tactic| ac_rfl) => `(tactic| ((repeat (first | symm | ((with_reducible show rdMod (.int _) (.int _) _ _); refine mod_any (by first | decide | assumption | omega) ?_; intro _ _ _))); try dsimp only))
theorem name_repr {x : Str} (h : nameB x = true) : (reprText x).length ≤ 82 := by
  have h8 := name_len h
  have := StrLaws.reprText_len x (fun c hc => by
    have := name_ok h
    unfold PyData.strOk at this
    rw [← Array.all_toList, List.all_eq_true] at this
    have := of_decide_eq_true (this c hc)
    omega)
  omega
theorem keep_in {r : Rule} {hs : List Host} {ns : List Str} (hr : RuleOk r) : (keepL r hs ns).length ≤ 5 ∧ ∀ x ∈ keepL r hs ns, x ∈ ns := by
  have hw := hr.w
  unfold keepL
  split
  · exact ⟨by rw [List.length_take]; omega, fun x hx => List.mem_of_mem_take hx⟩
  · refine ⟨by rw [List.length_take]; omega, fun x hx => ?_⟩
    rcases List.mem_append.mp (List.mem_of_mem_take hx) with hx | hx
    · exact (firsts_in ns.length).2 x (List.mem_of_mem_take hx)
    · exact (List.mem_filter.mp hx).1
theorem walk_uniq {size p : Int} {hs : List Host} {ns ns' : List Str} (hc : CrewOk size hs) (h : WalkOf size p hs ns) (h' : WalkOf size p hs ns') : ns = ns' := by
  obtain ⟨ws, s1, rfl, p1, a1⟩ := h
  obtain ⟨ws', s2, rfl, p2, a2⟩ := h'
  have hnd := crew_nodup hc
  have key : ∀ {us us' : List (Int × Str)}, (us.map (·.2)).Nodup → (us'.map (·.2)).Nodup → (∀ a ∈ us, ∃ h ∈ hs, h.name = a.2 ∧ IsWay size p h.marks a.1) → (∀ a ∈ us', ∃ h ∈ hs, h.name = a.2 ∧ IsWay size p h.marks a.1) → (∀ x, x ∈ us.map (·.2) → x ∈ us'.map (·.2)) → ∀ a ∈ us, a ∈ us' := by
    intro us us' n1 n2 b1 b2 hm a ha
    obtain ⟨b, hb, eb⟩ := List.mem_map.mp (hm a.2 (List.mem_map.mpr ⟨a, ha, rfl⟩))
    obtain ⟨o, ho, eo, wo⟩ := b1 a ha
    obtain ⟨o', ho', eo', wo'⟩ := b2 b hb
    have : o = o' := crew_inj hc ho ho' (by rw [eo, eo', eb])
    subst this
    have e1 := way_uniq wo wo'
    have : a = b := Prod.ext e1 eb.symm
    rw [this]; exact hb
  have n1 : (ws.map (·.2)).Nodup := p1.nodup_iff.mpr hnd
  have n2 : (ws'.map (·.2)).Nodup := p2.nodup_iff.mpr hnd
  have m1 := key n1 n2 a1 a2 (fun x hx => p2.mem_iff.mpr (p1.mem_iff.mp hx))
  have m2 := key n2 n1 a2 a1 (fun x hx => p1.mem_iff.mpr (p2.mem_iff.mp hx))
  have nd : ∀ {us : List (Int × Str)}, (us.map (·.2)).Nodup → us.Nodup := fun h => by
    unfold List.Nodup at h ⊢
    rw [List.pairwise_map] at h
    exact h.imp fun hab e => hab (by rw [e])
  have strict : ∀ {us : List (Int × Str)}, (us.map (·.2)).Nodup → us.Pairwise (fun a b => a.1 ≤ b.1) → (∀ a ∈ us, ∃ h ∈ hs, h.name = a.2 ∧ IsWay size p h.marks a.1) → us.Pairwise (fun a b => a.1 < b.1) := by
    intro us hn hs2 ha
    unfold List.Nodup at hn
    rw [List.pairwise_map] at hn
    have hb := hn.and hs2
    refine List.Pairwise.imp_of_mem (fun {a b} ma mb ⟨h1, h2⟩ => ?_) hb
    rcases Int.lt_or_eq_of_le h2 with h | h
    · exact h
    · exfalso
      obtain ⟨o, ho, eo, wo⟩ := ha a ma
      obtain ⟨o', ho', eo', wo'⟩ := ha b mb
      rw [h] at wo
      have := way_apart hc ho ho' wo wo'
      exact h1 (by rw [← eo, ← eo', this])
  have pm : ws.Perm ws' := (List.perm_ext_iff_of_nodup (nd n1) (nd n2)).mpr fun a => ⟨m1 a, m2 a⟩
  rw [sorted_uniq (W := fun a : Int × Str => a.1) pm (strict n1 s1 a1) (strict n2 s2 a2)]
theorem walk_len {size p : Int} {hs : List Host} {ns : List Str} (h : WalkOf size p hs ns) : ns.length = hs.length := by
  obtain ⟨ws, _, rfl, pm, _⟩ := h
  rw [pm.length_eq, List.length_map]
theorem walk_in {size p : Int} {hs : List Host} {ns : List Str} (h : WalkOf size p hs ns) : ∀ x ∈ ns, x ∈ hs.map (·.name) := by
  obtain ⟨ws, _, rfl, pm, _⟩ := h
  exact fun x hx => pm.mem_iff.mp hx
theorem walk_nd {size p : Int} {hs : List Host} {ns : List Str} (hc : CrewOk size hs) (h : WalkOf size p hs ns) : ns.Nodup := by
  obtain ⟨ws, _, rfl, pm, _⟩ := h
  exact pm.nodup_iff.mpr (crew_nodup hc)
theorem names_ok {size : Int} {hs : List Host} (hc : CrewOk size hs) {ns : List Str} (h : ∀ x ∈ ns, x ∈ hs.map (·.name)) : ∀ x ∈ ns, nameB x = true := fun x hx => by
  obtain ⟨o, ho, e⟩ := List.mem_map.mp (h x hx)
  rw [← e]; exact crew_name hc o ho
end R
set_option maxRecDepth 100000
set_option maxHeartbeats 1000000
namespace R
open PySem PySem.Spec PyProof.Rows L2 DL
local macro_rules | `(tactic| bv_omega) => `(tactic| first | assumption | exact mset_same)
local macro_rules | `(tactic| symm) => `(tactic| first
  | ((with_reducible show ∃ _, _ = _ ∧ _); refine ⟨_, rfl, ?_⟩)
  | ((with_reducible show _ = _ ∧ _); refine ⟨rfl, ?_⟩)
  | ((with_reducible show ∃ _ _, _ = _ ∧ _ = _ ∧ _); refine ⟨_, _, rfl, rfl, ?_⟩)
  | ((with_reducible show ∃ _ _, _ = _ ∧ _); refine ⟨_, _, rfl, ?_⟩)
  | ((with_reducible show ∃ _ _ _, _ = _ ∧ _); refine ⟨_, _, _, rfl, ?_⟩)
  | ((with_reducible show (_ ≤ _ ∧ _) ∧ _); refine ⟨by omega, ?_⟩)
  | with_reducible refine add_int ?_ | with_reducible refine sub_int ?_
  | with_reducible refine lt_int ?_ | with_reducible refine le_int ?_ | with_reducible refine gt_int ?_ | with_reducible refine ge_int ?_
  | with_reducible refine int_int ?_
  | with_reducible refine eq_int ?_ | with_reducible refine ne_int ?_
  | with_reducible refine len_tup ?_ | with_reducible refine len_lst ?_
  | ((with_reducible show rdIx (.cel _) (.int _) _ _); refine ix_cel (by bv_omega) (by rfl) ?_)
  | ((with_reducible show rdIx (.lst _) (.int _) _ _); refine ix_lst (by rfl) ?_)
  | ((with_reducible show rdIx (.tup _) (.int _) _ _); refine ix_tup (by rfl) ?_)
  | ((with_reducible show rdLen [.cel _] _ _); refine len_cel (by bv_omega) ?_)
  | ((with_reducible show rdMul (.int _) (.int _) _ _); first | refine mul_l (by decide) (by decide) ?_ | refine mul_r (by decide) (by decide) ?_ | refine mul_l (by omega) (by omega) ?_ | refine mul_r (by omega) (by omega) ?_)
  | ((with_reducible show rdDiv (.int _) (.int _) _ _); refine div_int (by first | decide | assumption | omega) (by first | decide | assumption | omega) ?_)
  | ((with_reducible show rdDivmod [.int _, .int _] _ _); refine dm_int (by first | decide | assumption | omega) (by first | decide | assumption | omega) ?_)
  | ((with_reducible show @ite _ (_ = true) _ _ _); first | refine ifYes (by first | with_reducible rfl | exact Bool.not_false | assumption) ?_ | refine ifNo (by first | with_reducible rfl | exact Bool.not_true | assumption) ?_)
  | ((with_reducible show ∃ _, _ ∧ _); refine ⟨_, celL_of (by bv_omega), ?_⟩)
  | ((with_reducible show ∃ _ _ _ _, _ ∧ _ ∧ _ ∧ _ ∧ _); refine ⟨_, _, _, _, rfl, rfl, by bv_omega, by rfl, ?_⟩)
  | ((with_reducible show (_ : Nat) ≤ sizeLine ∧ _); refine ⟨by rw [sizeLine_eq]; exact Nat.le_of_ble_eq_true rfl, ?_⟩))
local macro_rules | `(tactic| infer_instance) => `(tactic| ((repeat symm); try dsimp only))
local macro_rules | `(tactic| ac_rfl) => `(tactic| ((repeat (first | symm | ((with_reducible show rdMod (.int _) (.int _) _ _); refine mod_any (by first | decide | assumption | omega) ?_; intro _ _ _))); try dsimp only))
theorem rising_pw : ∀ {p : Str} {l : List Str}, PyProof.Rows.risingS p l = true → (p :: l).Pairwise (fun a b => ¬ b.cps.toList < a.cps.toList)
  | p, [], _ => by simp
  | p, x :: r, h => by
    have h' : (!PySem.Spec.ltCps x.cps.toList p.cps.toList && PyProof.Rows.risingS x r) = true := h
    rw [Bool.and_eq_true] at h'
    obtain ⟨h1, h2⟩ := h'
    have h3 : ¬ x.cps.toList < p.cps.toList := by
      rw [PyProof.Rows.ltCps_eq] at h1
      simpa using h1
    have ih := rising_pw h2
    refine List.pairwise_cons.mpr ⟨fun y hy => ?_, ih⟩
    rcases List.mem_cons.mp hy with rfl | hy
    · exact h3
    · have h4 := (List.pairwise_cons.mp ih).1 y hy
      intro h5
      have a1 : p.cps.toList ≤ x.cps.toList := List.not_lt.mp h3
      have a2 : x.cps.toList ≤ y.cps.toList := List.not_lt.mp h4
      have a3 := List.le_trans a1 a2
      exact absurd h5 (List.not_lt.mpr a3)
theorem sorted_pw : ∀ {l : List Str}, PyProof.Rows.sortedS l = true → l.Pairwise (fun a b => ¬ b.cps.toList < a.cps.toList)
  | [], _ => .nil
  | x :: r, h => rising_pw h
theorem perm_pw_eq {α : Type} {R : α → α → Prop} (anti : ∀ a b, R a b → R b a → a = b) : ∀ {xs ys : List α}, xs.Perm ys → xs.Pairwise R → ys.Pairwise R → xs = ys
  | [], ys, hp, _, _ => (List.nil_perm.mp hp).symm
  | x :: xs, [], hp, _, _ => absurd hp.length_eq (by simp)
  | x :: xs, y :: ys, hp, h1, h2 => by
    obtain ⟨a1, b1⟩ := List.pairwise_cons.mp h1
    obtain ⟨a2, b2⟩ := List.pairwise_cons.mp h2
    have hx : x ∈ y :: ys := hp.mem_iff.mp (List.mem_cons_self ..)
    have hy : y ∈ x :: xs := hp.mem_iff.mpr (List.mem_cons_self ..)
    have e : x = y := by
      rcases List.mem_cons.mp hx with e | hx
      · exact e
      · rcases List.mem_cons.mp hy with e | hy
        · exact e.symm
        · exact anti x y (a1 y hy) (a2 x hx)
    subst e
    rw [perm_pw_eq anti ((List.perm_cons x).mp hp) b1 b2]
theorem sortedS_uniq {xs ys : List Str} (hp : xs.Perm ys) (h1 : PyProof.Rows.sortedS xs = true) (h2 : PyProof.Rows.sortedS ys = true) : xs = ys :=
  perm_pw_eq (fun a b h h' => str_ext (List.le_antisymm (List.not_lt.mp h) (List.not_lt.mp h'))) hp (sorted_pw h1) (sorted_pw h2)
end R
set_option maxRecDepth 100000
namespace R
open PySem PySem.Spec PyProof.Rows L2 DL
abbrev N_Ring_names : List Str := ["self", "host"]
def db_Ring_names (C : Addr) : DS :=
    (dRet (dCB rdTuple (dCons (dCB rdSortS (dCons (dLc (dIter (dFld C "_hosts" (dVar 0))) (gdName 1) dYes (dOp rdIx (dVar 1) (dC (.int 0))) [1]) dNil)) dNil)))
abbrev N_Ring___contains__ : List Str := ["self", "x"]
def db_Ring___contains__ (C : Addr) : DS :=
    (dRet (dCall 2 (sd_is_word_of C) (dCons (dVar 1) (dCons (dProp C (sd_Ring_names C) (dVar 0)) dNil))))
abbrev N_check_name : List Str := ["ring", "name"]
def db_check_name (C : Addr) : DS :=
    (dIfS (dTst (dOp (rdInO true C (sd_Ring___contains__ C)) (dVar 1) (dVar 0))) dNever dNext)
abbrev N_Ring__with_hosts : List Str := ["self", "hosts", "read"]
def db_Ring__with_hosts (C : Addr) : DS :=
    (dSeq (dSet 2 (dFld C "_read_number" (dVar 0)))
    (dRet (dMake C 8 (sd_Ring___init__ C) (dCons (dFld C "_points" (dVar 0)) (dCons (dFld C "_factor" (dVar 0)) (dCons (dFld C "_spread" (dVar 0)) (dCons (dFld C "_write" (dVar 0)) (dCons (dVar 2) (dCons (dFld C "_pending" (dVar 0)) (dCons (dVar 1) dNil))))))))))
abbrev N_Ring_joined : List Str := ["self", "name", "rack", "marks"]
def db_Ring_joined (C : Addr) : DS :=
    (dSeq (dIfS (dNot (dTru (dCall 2 (sd_is_free_name C) (dCons (dVar 1) (dCons (dFld C "_hosts" (dVar 0)) dNil))))) dNever dNext)
    (dSeq (dIfS (dNot (dTru (dCall 1 (sd_is_name C) (dCons (dVar 2) dNil)))) dNever dNext)
    (dSeq (dIfS (dNot (dTru (dCall 3 (sd_are_free_marks C) (dCons (dVar 3) (dCons (dFld C "_points" (dVar 0)) (dCons (dFld C "_hosts" (dVar 0)) dNil)))))) dNever dNext)
    (dSeq (dIfS (dTst (dOp rdEq (dCB rdLen (dCons (dFld C "_hosts" (dVar 0)) dNil)) (dC (.int 12)))) dNever dNext)
    (dRet (dMeth C "_with_hosts" 2 (sd_Ring__with_hosts C) (dVar 0) (dCons (dOp rdAdd (dFld C "_hosts" (dVar 0)) (dTup (dCons (dTup (dCons (dVar 1) (dCons (dVar 2) (dCons (dVar 3) dNil)))) dNil))) dNil)))))))
abbrev N_Ring_left : List Str := ["self", "name", "host"]
def db_Ring_left (C : Addr) : DS :=
    (dSeq (dExp (dCall 2 (sd_check_name C) (dCons (dVar 0) (dCons (dVar 1) dNil))))
    (dSeq (dIfS (dTst (dOp rdEq (dCB rdLen (dCons (dFld C "_hosts" (dVar 0)) dNil)) (dC (.int 1)))) dNever dNext)
    (dRet (dMeth C "_with_hosts" 2 (sd_Ring__with_hosts C) (dVar 0) (dCons (dCB rdTuple (dCons (dLc (dIter (dFld C "_hosts" (dVar 0))) (gdName 2) (dTst (dOp rdNe (dOp rdIx (dVar 2) (dC (.int 0))) (dVar 1))) (dVar 2) [2]) dNil)) dNil)))))
end R
set_option maxRecDepth 100000
set_option maxHeartbeats 1000000
namespace R
open PySem PySem.Spec PyProof.Rows L2 DL
local macro_rules | `(tactic| bv_omega) => `(tactic| first | assumption | exact mset_same)
local macro_rules | `(tactic| symm) => `(tactic| first
  | ((with_reducible show ∃ _, _ = _ ∧ _); refine ⟨_, rfl, ?_⟩)
  | ((with_reducible show _ = _ ∧ _); refine ⟨rfl, ?_⟩)
  | ((with_reducible show ∃ _ _, _ = _ ∧ _ = _ ∧ _); refine ⟨_, _, rfl, rfl, ?_⟩)
  | ((with_reducible show ∃ _ _, _ = _ ∧ _); refine ⟨_, _, rfl, ?_⟩)
  | ((with_reducible show ∃ _ _ _, _ = _ ∧ _); refine ⟨_, _, _, rfl, ?_⟩)
  | ((with_reducible show (_ ≤ _ ∧ _) ∧ _); refine ⟨by omega, ?_⟩)
  | with_reducible refine add_int ?_ | with_reducible refine sub_int ?_
  | with_reducible refine lt_int ?_ | with_reducible refine le_int ?_ | with_reducible refine gt_int ?_ | with_reducible refine ge_int ?_
  | with_reducible refine int_int ?_
  | with_reducible refine eq_int ?_ | with_reducible refine ne_int ?_
  | with_reducible refine len_tup ?_ | with_reducible refine len_lst ?_
  | ((with_reducible show rdIx (.cel _) (.int _) _ _); refine ix_cel (by bv_omega) (by rfl) ?_)
  | ((with_reducible show rdIx (.lst _) (.int _) _ _); refine ix_lst (by rfl) ?_)
  | ((with_reducible show rdIx (.tup _) (.int _) _ _); refine ix_tup (by rfl) ?_)
  | ((with_reducible show rdLen [.cel _] _ _); refine len_cel (by bv_omega) ?_)
  | ((with_reducible show rdMul (.int _) (.int _) _ _); first | refine mul_l (by decide) (by decide) ?_ | refine mul_r (by decide) (by decide) ?_ | refine mul_l (by omega) (by omega) ?_ | refine mul_r (by omega) (by omega) ?_)
  | ((with_reducible show rdDiv (.int _) (.int _) _ _); refine div_int (by first | decide | assumption | omega) (by first | decide | assumption | omega) ?_)
  | ((with_reducible show rdDivmod [.int _, .int _] _ _); refine dm_int (by first | decide | assumption | omega) (by first | decide | assumption | omega) ?_)
  | ((with_reducible show @ite _ (_ = true) _ _ _); first | refine ifYes (by first | with_reducible rfl | exact Bool.not_false | assumption) ?_ | refine ifNo (by first | with_reducible rfl | exact Bool.not_true | assumption) ?_)
  | ((with_reducible show ∃ _, _ ∧ _); refine ⟨_, celL_of (by bv_omega), ?_⟩)
  | ((with_reducible show ∃ _ _ _ _, _ ∧ _ ∧ _ ∧ _ ∧ _); refine ⟨_, _, _, _, rfl, rfl, by bv_omega, by rfl, ?_⟩)
  | ((with_reducible show (_ : Nat) ≤ sizeLine ∧ _); refine ⟨by rw [sizeLine_eq]; exact Nat.le_of_ble_eq_true rfl, ?_⟩))
local macro_rules | `(tactic| infer_instance) => `(tactic| ((repeat symm); try dsimp only))
local macro_rules | `(tactic| ac_rfl) => `(tactic| ((repeat (first | symm | ((with_reducible show rdMod (.int _) (.int _) _ _); refine mod_any (by first | decide | assumption | omega) ?_; intro _ _ _))); try dsimp only))
def Apart (a b : Host) : Prop := a.name ≠ b.name ∧ ∀ m ∈ b.marks, m ∉ a.marks
theorem Apart.symm {a b : Host} (h : Apart a b) : Apart b a := ⟨Ne.symm h.1, fun m hm hb => h.2 m hb hm⟩
theorem crew_of {size : Int} {hs : List Host} (ne : hs ≠ []) (few : hs.length ≤ 12) (ht : ∀ h ∈ hs, HostT size h) (hp : hs.Pairwise Apart) : CrewOk size hs := by
  refine ⟨ne, few, fun i h hi => ?_⟩
  obtain ⟨hl, e⟩ := List.getElem?_eq_some_iff.mp hi
  have hT := ht h (List.mem_of_getElem? hi)
  have key : ∀ o ∈ hs.take i, Apart o h := fun o ho => by
    obtain ⟨j, hj, rfl⟩ := List.mem_iff_getElem.mp ho
    rw [List.length_take] at hj
    rw [List.getElem_take, ← e]
    exact List.pairwise_iff_getElem.mp hp j i (by omega) hl (by omega)
  exact ⟨hT.name, hT.rack, fun o ho => (key o ho).1, hT.marks, fun o ho m hm => (key o ho).2 m hm⟩
theorem crew_pw {size : Int} {hs : List Host} (hc : CrewOk size hs) : hs.Pairwise Apart := by
  rw [List.pairwise_iff_getElem]
  intro i j hi hj hij
  have h := hc.each j hs[j] (List.getElem?_eq_getElem hj)
  have hm : hs[i] ∈ hs.take j := by
    rw [List.mem_iff_getElem]
    exact ⟨i, by rw [List.length_take]; omega, by rw [List.getElem_take]⟩
  exact ⟨h.fresh _ hm, h.free _ hm⟩
theorem crew_snoc {size : Int} {hs : List Host} {h : Host} (hc : CrewOk size hs) (hl : hs.length ≤ 11) (hn : NextOk size hs h) : CrewOk size (hs ++ [h]) := by
  refine crew_of (by simp) (by rw [List.length_append, List.length_singleton]; omega) (fun o ho => ?_) ?_
  · rcases List.mem_append.mp ho with ho | ho
    · exact crew_hostT hc ho
    · rw [List.mem_singleton.mp ho]; exact ⟨hn.name, hn.rack, hn.marks⟩
  · rw [List.pairwise_append]
    refine ⟨crew_pw hc, by simp, fun a ha b hb => ?_⟩
    rw [List.mem_singleton.mp hb]
    exact ⟨hn.fresh a ha, hn.free a ha⟩
theorem crew_filter {size : Int} {hs : List Host} (p : Host → Bool) (hc : CrewOk size hs) (ne : hs.filter p ≠ []) : CrewOk size (hs.filter p) :=
  crew_of ne (Nat.le_trans (List.length_filter_le _ _) hc.few) (fun o ho => crew_hostT hc (List.mem_filter.mp ho).1) ((crew_pw hc).filter p)
theorem crew_perm {size : Int} {hs gs : List Host} (hc : CrewOk size hs) (hp : gs.Perm hs) : CrewOk size gs := by
  refine crew_of (fun e => hc.ne (by rw [e] at hp; exact List.nil_perm.mp hp)) (by rw [hp.length_eq]; exact hc.few) (fun o ho => crew_hostT hc (hp.mem_iff.mp ho)) ?_
  exact (hp.pairwise_iff (fun h => h.symm)).mpr (crew_pw hc)
theorem left_len {size : Int} {hs : List Host} {x : Str} (hc : CrewOk size hs) (hx : x ∈ hs.map (·.name)) : (hs.filter fun h => !decide (h.name = x)).length + 1 = hs.length := by
  have hnd := crew_nodup hc
  clear hc
  induction hs with
  | nil => simp at hx
  | cons h hs ih =>
    rw [List.map_cons, List.nodup_cons] at hnd
    by_cases e : h.name = x
    · subst e
      have : hs.filter (fun o => !decide (o.name = h.name)) = hs := List.filter_eq_self.mpr fun o ho => by
        have : o.name ≠ h.name := fun z => hnd.1 (List.mem_map.mpr ⟨o, ho, z⟩)
        simp [this]
      rw [List.filter_cons]
      simp [this]
    · have hx' : x ∈ hs.map (·.name) := by
        rw [List.map_cons] at hx
        rcases List.mem_cons.mp hx with z | z
        · exact absurd z.symm e
        · exact z
      rw [List.filter_cons]
      simp [e]
      have := ih hx' hnd.2
      simpa using this
theorem lk_write {size : Int} {r : Rule} {hs : List Host} : (fieldsD size r hs).lookup ("_write" : Str) = some (.int r.write) := by rfl
theorem lk_read {size : Int} {r : Rule} {hs : List Host} : (fieldsD size r hs).lookup ("_read_number" : Str) = some (.int r.read) := by rfl
theorem lk_pend {size : Int} {r : Rule} {hs : List Host} : (fieldsD size r hs).lookup ("_pending" : Str) = some (.str r.pend) := by rfl
theorem lk_withh {size : Int} {r : Rule} {hs : List Host} : (fieldsD size r hs).lookup ("_with_hosts" : Str) = none := by rfl
theorem lk_joined {size : Int} {r : Rule} {hs : List Host} : (fieldsD size r hs).lookup ("joined" : Str) = none := by rfl
theorem lk_left {size : Int} {r : Rule} {hs : List Host} : (fieldsD size r hs).lookup ("left" : Str) = none := by rfl
theorem kp_Ring_names (C : Addr) : Keeps N_Ring_names 1 (sd_Ring_names C) (db_Ring_names C) := by
  rintro ds M q ex hl ⟨size, r, hs, rfl, hf, h⟩
  show db_Ring_names C _ [some (ringD C size r hs), none] M
  unfold db_Ring_names
  infer_instance
  refine fld_ring lk_hosts ?_
  infer_instance
  intro c hcn
  refine lc_pure (fun _ => true) (fun d => match d with | .tup (x :: _) => x | d => d) hcn (by rw [List.length_map, sizeLine_eq]; omega) (fun _ => rfl) (fun y hy acc hz nx hyes _ => ?_) ?_
  · obtain ⟨o, ho, rfl⟩ := List.mem_map.mp hy
    infer_instance
    exact acc_put hz (hyes rfl)
  · have e : (((hs.map hostD).filter fun _ => true).map fun d => match d with | .tup (x :: _) => x | d => d) = (hs.map (·.name)).map D.str := by
      rw [List.filter_eq_self.mpr fun _ _ => rfl, List.map_map, List.map_map]
      rfl
    rw [e]
    infer_instance
    refine ⟨_, _, hs.map (·.name), rfl, rfl, DL.strs_map _, by rw [List.length_map]; omega, fun ys hp ho => ?_⟩
    infer_instance
    exact ⟨_, _, rfl, rfl, h ys hp ho⟩
theorem kp_Ring___contains__ (C : Addr) : Keeps N_Ring___contains__ 2 (sd_Ring___contains__ C) (db_Ring___contains__ C) := by
  rintro ds M q ex hl ⟨size, r, hs, d, rfl, hf, h⟩
  show db_Ring___contains__ C _ [some (ringD C size r hs), some d] M
  unfold db_Ring___contains__
  infer_instance
  refine ⟨_, fs_ring, size, r, hs, rfl, hf, fun ys hp ho => ?_⟩
  infer_instance
  rcases h with ⟨x, rfl, h⟩ | ⟨t, ht, hn, h⟩
  · refine .inl ⟨x, ys, rfl, ?_⟩
    rw [show decide (x ∈ ys) = decide (x ∈ hs.map (·.name)) from decide_eq_decide.mpr hp.mem_iff]
    exact h
  · exact .inr ⟨d, ys, t, rfl, ht, hn, h⟩
theorem kp_check_name (C : Addr) : Keeps N_check_name 2 (sd_check_name C) (db_check_name C) := by
  rintro ds M q ex hl ⟨size, r, hs, x, rfl, hf, hx, h⟩
  show db_check_name C _ [some (ringD C size r hs), some (.str x)] M
  unfold db_check_name
  infer_instance
  refine ⟨_, fs_ring, size, r, hs, _, rfl, hf, .inl ⟨x, rfl, ?_⟩⟩
  rw [decide_eq_true hx]
  infer_instance
  exact h
end R
set_option maxRecDepth 100000
set_option maxHeartbeats 1000000
namespace R
open PySem PySem.Spec PyProof.Rows L2 DL
local macro_rules | `(tactic| bv_omega) => `(tactic| first | assumption | exact mset_same)
local macro_rules | `(tactic| symm) => `(tactic| first
  | ((with_reducible show ∃ _, _ = _ ∧ _); refine ⟨_, rfl, ?_⟩)
  | ((with_reducible show _ = _ ∧ _); refine ⟨rfl, ?_⟩)
  | ((with_reducible show ∃ _ _, _ = _ ∧ _ = _ ∧ _); refine ⟨_, _, rfl, rfl, ?_⟩)
  | ((with_reducible show ∃ _ _, _ = _ ∧ _); refine ⟨_, _, rfl, ?_⟩)
  | ((with_reducible show ∃ _ _ _, _ = _ ∧ _); refine ⟨_, _, _, rfl, ?_⟩)
  | ((with_reducible show (_ ≤ _ ∧ _) ∧ _); refine ⟨by omega, ?_⟩)
  | with_reducible refine add_int ?_ | with_reducible refine sub_int ?_
  | with_reducible refine lt_int ?_ | with_reducible refine le_int ?_ | with_reducible refine gt_int ?_ | with_reducible refine ge_int ?_
  | with_reducible refine int_int ?_
  | with_reducible refine eq_int ?_ | with_reducible refine ne_int ?_
  | with_reducible refine len_tup ?_ | with_reducible refine len_lst ?_
  | ((with_reducible show rdIx (.cel _) (.int _) _ _); refine ix_cel (by bv_omega) (by rfl) ?_)
  | ((with_reducible show rdIx (.lst _) (.int _) _ _); refine ix_lst (by rfl) ?_)
  | ((with_reducible show rdIx (.tup _) (.int _) _ _); refine ix_tup (by rfl) ?_)
  | ((with_reducible show rdLen [.cel _] _ _); refine len_cel (by bv_omega) ?_)
  | ((with_reducible show rdMul (.int _) (.int _) _ _); first | refine mul_l (by decide) (by decide) ?_ | refine mul_r (by decide) (by decide) ?_ | refine mul_l (by omega) (by omega) ?_ | refine mul_r (by omega) (by omega) ?_)
  | ((with_reducible show rdDiv (.int _) (.int _) _ _); refine div_int (by first | decide | assumption | omega) (by first | decide | assumption | omega) ?_)
  | ((with_reducible show rdDivmod [.int _, .int _] _ _); refine dm_int (by first | decide | assumption | omega) (by first | decide | assumption | omega) ?_)
  | ((with_reducible show @ite _ (_ = true) _ _ _); first | refine ifYes (by first | with_reducible rfl | exact Bool.not_false | assumption) ?_ | refine ifNo (by first | with_reducible rfl | exact Bool.not_true | assumption) ?_)
  | ((with_reducible show ∃ _, _ ∧ _); refine ⟨_, celL_of (by bv_omega), ?_⟩)
  | ((with_reducible show ∃ _ _ _ _, _ ∧ _ ∧ _ ∧ _ ∧ _); refine ⟨_, _, _, _, rfl, rfl, by bv_omega, by rfl, ?_⟩)
  | ((with_reducible show (_ : Nat) ≤ sizeLine ∧ _); refine ⟨by rw [sizeLine_eq]; exact Nat.le_of_ble_eq_true rfl, ?_⟩))
local macro_rules | `(tactic| infer_instance) => `(tactic| ((repeat symm); try dsimp only))
local macro_rules | `(tactic| ac_rfl) => `(tactic| ((repeat (first | symm | ((with_reducible show rdMod (.int _) (.int _) _ _); refine mod_any (by first | decide | assumption | omega) ?_; intro _ _ _))); try dsimp only))
theorem walk_turn {size p size' p' : Int} {hs hs' : List Host} {ns : List Str} (g : Int → Int) (σ : Str → Str) (hg : ∀ a b, a ≤ b → g a ≤ g b) (hn : (hs'.map (·.name)).Perm ((hs.map (·.name)).map σ))
    (hw : ∀ h ∈ hs, ∃ h' ∈ hs', h'.name = σ h.name ∧ ∀ m, IsWay size p h.marks m → IsWay size' p' h'.marks (g m)) (w : WalkOf size p hs ns) : WalkOf size' p' hs' (ns.map σ) := by
  obtain ⟨ws, s1, rfl, p1, a1⟩ := w
  refine ⟨ws.map fun a => (g a.1, σ a.2), ?_, by simp [List.map_map, Function.comp_def], ?_, fun a ha => ?_⟩
  · rw [List.pairwise_map]
    exact s1.imp fun h => hg _ _ h
  · rw [List.map_map]
    have e : (ws.map ((fun a : Int × Str => a.2) ∘ fun a : Int × Str => (g a.1, σ a.2))) = (ws.map (·.2)).map σ := by rw [List.map_map]; rfl
    rw [e]
    exact (p1.map σ).trans hn.symm
  · obtain ⟨b, hb, rfl⟩ := List.mem_map.mp ha
    obtain ⟨h, hh, e, wy⟩ := a1 b hb
    obtain ⟨h', hh', e', wy'⟩ := hw h hh
    exact ⟨h', hh', by rw [e', e], wy' _ wy⟩
theorem split_turn {hs hs' : List Host} {σ τ : Str → Str} : ∀ (ns seen fs os : List Str), (∀ x ∈ ns, rackOf hs' (σ x) = τ (rackOf hs x)) → (∀ x ∈ ns, ∀ y ∈ seen ++ ns.map (rackOf hs), τ y = τ (rackOf hs x) → y = rackOf hs x) →
    splitR hs' (seen.map τ) (fs.map σ) (os.map σ) (ns.map σ) = ((splitR hs seen fs os ns).1.map σ, (splitR hs seen fs os ns).2.map σ)
  | [], seen, fs, os, _, _ => rfl
  | x :: r, seen, fs, os, h1, h2 => by
    have hx := h1 x (by simp)
    have hm : τ (rackOf hs x) ∈ seen.map τ ↔ rackOf hs x ∈ seen := by
      constructor
      · intro hm
        obtain ⟨y, hy, e⟩ := List.mem_map.mp hm
        have := h2 x (by simp) y (List.mem_append.mpr (.inl hy)) e
        rw [← this]; exact hy
      · exact fun hm => List.mem_map.mpr ⟨_, hm, rfl⟩
    rw [List.map_cons, splitR, splitR, hx]
    by_cases hc : rackOf hs x ∈ seen
    · rw [if_pos hc, if_pos (hm.mpr hc)]
      have := split_turn (hs := hs) (hs' := hs') (σ := σ) (τ := τ) r seen fs (os ++ [x]) (fun y hy => h1 y (List.mem_cons_of_mem _ hy)) (fun y hy z hz => h2 y (List.mem_cons_of_mem _ hy) z (by
        rcases List.mem_append.mp hz with hz | hz
        · exact List.mem_append.mpr (.inl hz)
        · exact List.mem_append.mpr (.inr (by rw [List.map_cons]; exact List.mem_cons_of_mem _ hz))))
      rw [List.map_append] at this
      exact this
    · rw [if_neg hc, if_neg fun z => hc (hm.mp z)]
      have := split_turn (hs := hs) (hs' := hs') (σ := σ) (τ := τ) r (seen ++ [rackOf hs x]) (fs ++ [x]) os (fun y hy => h1 y (List.mem_cons_of_mem _ hy)) (fun y hy z hz => h2 y (List.mem_cons_of_mem _ hy) z (by
        rcases List.mem_append.mp hz with hz | hz
        · rcases List.mem_append.mp hz with hz | hz
          · exact List.mem_append.mpr (.inl hz)
          · rw [List.mem_singleton.mp hz]; exact List.mem_append.mpr (.inr (by rw [List.map_cons]; exact List.mem_cons_self ..))
        · exact List.mem_append.mpr (.inr (by rw [List.map_cons]; exact List.mem_cons_of_mem _ hz))))
      rw [List.map_append, List.map_append] at this
      exact this
theorem keepers_turn {r r' : Rule} {hs hs' : List Host} {ns : List Str} {σ τ : Str → Str} (hr : r'.wide = r.wide) (hs1 : r'.spread = r.spread) (h1 : ∀ x ∈ ns, rackOf hs' (σ x) = τ (rackOf hs x)) (h2 : ∀ x ∈ ns, ∀ y ∈ ns, τ (rackOf hs y) = τ (rackOf hs x) → rackOf hs y = rackOf hs x) : keepersOf r' hs' (ns.map σ) = (keepersOf r hs ns).map σ := by
  unfold keepersOf
  rw [hr, hs1]
  split
  · unfold newRacks
    have := split_turn (hs := hs) (hs' := hs') (σ := σ) (τ := τ) ns [] [] [] h1 (fun x hx y hy e => by
      rw [List.nil_append] at hy
      obtain ⟨z, hz, rfl⟩ := List.mem_map.mp hy
      exact h2 x hx z hz e)
    simp only [List.map_nil] at this
    rw [this, List.map_take, List.map_append]
  · rw [List.map_take]
theorem rack_perm {size : Int} {hs hs' : List Host} (hc : CrewOk size hs) (hc' : CrewOk size hs') (hp : hs'.Perm hs) {x : Str} (hx : x ∈ hs.map (·.name)) : rackOf hs' x = rackOf hs x := by
  obtain ⟨o, ho, rfl⟩ := List.mem_map.mp hx
  rw [crew_rack hc ho, crew_rack hc' (hp.mem_iff.mpr ho)]
/-- the hosts in another order -/
theorem walk_perm {size p : Int} {hs hs' : List Host} {ns : List Str} (hp : hs'.Perm hs) (w : WalkOf size p hs ns) : WalkOf size p hs' ns := by
  have := walk_turn (hs' := hs') (p' := p) (size' := size) id id (fun _ _ h => h) (by rw [List.map_id]; exact hp.map _) (fun h hh => ⟨h, hp.mem_iff.mpr hh, rfl, fun m hm => hm⟩) w
  rwa [List.map_id] at this
end R
set_option maxRecDepth 100000
set_option maxHeartbeats 1000000
namespace R
open PySem PySem.Spec PyProof.Rows L2 DL
local macro_rules | `(tactic| bv_omega) => `(tactic| first | assumption | exact mset_same)
local macro_rules | `(tactic| symm) => `(tactic| first
  | ((with_reducible show ∃ _, _ = _ ∧ _); refine ⟨_, rfl, ?_⟩)
  | ((with_reducible show _ = _ ∧ _); refine ⟨rfl, ?_⟩)
  | ((with_reducible show ∃ _ _, _ = _ ∧ _ = _ ∧ _); refine ⟨_, _, rfl, rfl, ?_⟩)
  | ((with_reducible show ∃ _ _, _ = _ ∧ _); refine ⟨_, _, rfl, ?_⟩)
  | ((with_reducible show ∃ _ _ _, _ = _ ∧ _); refine ⟨_, _, _, rfl, ?_⟩)
  | ((with_reducible show (_ ≤ _ ∧ _) ∧ _); refine ⟨by omega, ?_⟩)
  | with_reducible refine add_int ?_ | with_reducible refine sub_int ?_
  | with_reducible refine lt_int ?_ | with_reducible refine le_int ?_ | with_reducible refine gt_int ?_ | with_reducible refine ge_int ?_
  | with_reducible refine int_int ?_
  | with_reducible refine eq_int ?_ | with_reducible refine ne_int ?_
  | with_reducible refine len_tup ?_ | with_reducible refine len_lst ?_
  | ((with_reducible show rdIx (.cel _) (.int _) _ _); refine ix_cel (by bv_omega) (by rfl) ?_)
  | ((with_reducible show rdIx (.lst _) (.int _) _ _); refine ix_lst (by rfl) ?_)
  | ((with_reducible show rdIx (.tup _) (.int _) _ _); refine ix_tup (by rfl) ?_)
  | ((with_reducible show rdLen [.cel _] _ _); refine len_cel (by bv_omega) ?_)
  | ((with_reducible show rdMul (.int _) (.int _) _ _); first | refine mul_l (by decide) (by decide) ?_ | refine mul_r (by decide) (by decide) ?_ | refine mul_l (by omega) (by omega) ?_ | refine mul_r (by omega) (by omega) ?_)
  | ((with_reducible show rdDiv (.int _) (.int _) _ _); refine div_int (by first | decide | assumption | omega) (by first | decide | assumption | omega) ?_)
  | ((with_reducible show rdDivmod [.int _, .int _] _ _); refine dm_int (by first | decide | assumption | omega) (by first | decide | assumption | omega) ?_)
  | ((with_reducible show @ite _ (_ = true) _ _ _); first | refine ifYes (by first | with_reducible rfl | exact Bool.not_false | assumption) ?_ | refine ifNo (by first | with_reducible rfl | exact Bool.not_true | assumption) ?_)
  | ((with_reducible show ∃ _, _ ∧ _); refine ⟨_, celL_of (by bv_omega), ?_⟩)
  | ((with_reducible show ∃ _ _ _ _, _ ∧ _ ∧ _ ∧ _ ∧ _); refine ⟨_, _, _, _, rfl, rfl, by bv_omega, by rfl, ?_⟩)
  | ((with_reducible show (_ : Nat) ≤ sizeLine ∧ _); refine ⟨by rw [sizeLine_eq]; exact Nat.le_of_ble_eq_true rfl, ?_⟩))
local macro_rules | `(tactic| infer_instance) => `(tactic| ((repeat symm); try dsimp only))
local macro_rules | `(tactic| ac_rfl) => `(tactic| ((repeat (first | symm | ((with_reducible show rdMod (.int _) (.int _) _ _); refine mod_any (by first | decide | assumption | omega) ?_; intro _ _ _))); try dsimp only))
theorem split_acc {hs : List Host} : ∀ (ns seen fs os : List Str), splitR hs seen fs os ns = (fs ++ (splitR hs seen [] [] ns).1, os ++ (splitR hs seen [] [] ns).2)
  | [], seen, fs, os => by simp [splitR]
  | x :: r, seen, fs, os => by
    rw [splitR, splitR]
    by_cases h : rackOf hs x ∈ seen
    · rw [if_pos h, if_pos h, split_acc r seen fs (os ++ [x]), split_acc r seen [] ([] ++ [x])]
      simp
    · rw [if_neg h, if_neg h, split_acc r _ (fs ++ [x]) os, split_acc r _ ([] ++ [x]) []]
      simp
theorem split_set {hs : List Host} : ∀ (ns s s' : List Str), (∀ x, x ∈ s ↔ x ∈ s') → splitR hs s [] [] ns = splitR hs s' [] [] ns
  | [], _, _, _ => rfl
  | x :: r, s, s', h => by
    rw [splitR, splitR]
    by_cases hx : rackOf hs x ∈ s
    · rw [if_pos hx, if_pos ((h _).mp hx), split_acc r s, split_acc r s', split_set r s s' h]
    · rw [if_neg hx, if_neg fun z => hx ((h _).mpr z), split_acc r (s ++ _), split_acc r (s' ++ _), split_set r (s ++ [rackOf hs x]) (s' ++ [rackOf hs x]) fun y => by rw [List.mem_append, List.mem_append, h y]]
theorem split_cat {hs : List Host} : ∀ (A B s : List Str), ∃ s', (∀ x, x ∈ s' ↔ x ∈ s ∨ x ∈ A.map (rackOf hs)) ∧ splitR hs s [] [] (A ++ B) = ((splitR hs s [] [] A).1 ++ (splitR hs s' [] [] B).1, (splitR hs s [] [] A).2 ++ (splitR hs s' [] [] B).2)
  | [], B, s => ⟨s, fun x => by simp, by simp [splitR]⟩
  | x :: A, B, s => by
    rw [List.cons_append, splitR, splitR]
    by_cases h : rackOf hs x ∈ s
    · obtain ⟨s', h1, h2⟩ := split_cat (hs := hs) A B s
      refine ⟨s', fun y => ?_, ?_⟩
      · rw [h1 y, List.map_cons, List.mem_cons]
        constructor
        · rintro (z | z)
          · exact .inl z
          · exact .inr (.inr z)
        · rintro (z | rfl | z)
          · exact .inl z
          · exact .inl h
          · exact .inr z
      · rw [if_pos h, if_pos h, split_acc (A ++ B), split_acc A, h2]
        simp
    · obtain ⟨s', h1, h2⟩ := split_cat (hs := hs) A B (s ++ [rackOf hs x])
      refine ⟨s', fun y => ?_, ?_⟩
      · rw [h1 y, List.map_cons, List.mem_cons, List.mem_append, List.mem_singleton]
        constructor
        · rintro ((z | z) | z)
          · exact .inl z
          · exact .inr (.inl z)
          · exact .inr (.inr z)
        · rintro (z | z | z)
          · exact .inl (.inl z)
          · exact .inl (.inr z)
          · exact .inr z
      · rw [if_neg h, if_neg h, split_acc (A ++ B), split_acc A, h2]
        simp
/-- one rack more seen: the first host of this rack stands among the others -/
theorem split_more {hs : List Host} {b : Str} : ∀ (B s : List Str), b ∉ s →
    splitR hs (s ++ [b]) [] [] B = splitR hs s [] [] B ∨ ∃ (F1 F2 O1 O2 : List Str) (x : Str), splitR hs s [] [] B = (F1 ++ x :: F2, O1 ++ O2) ∧ splitR hs (s ++ [b]) [] [] B = (F1 ++ F2, O1 ++ x :: O2)
  | [], s, _ => .inl (by simp [splitR])
  | y :: B, s, hb => by
    by_cases h1 : rackOf hs y ∈ s
    · have h2 : rackOf hs y ∈ s ++ [b] := List.mem_append.mpr (.inl h1)
      rw [splitR, splitR, if_pos h1, if_pos h2, split_acc B (s ++ [b]), split_acc B s]
      rcases split_more (hs := hs) B s hb with e | ⟨F1, F2, O1, O2, x, e1, e2⟩
      · rw [e]; exact .inl rfl
      · rw [e1, e2]
        exact .inr ⟨F1, F2, y :: O1, O2, x, by simp, by simp⟩
    · by_cases h2 : rackOf hs y = b
      · have h3 : rackOf hs y ∈ s ++ [b] := by rw [h2]; simp
        rw [splitR, splitR, if_neg h1, if_pos h3, split_acc B (s ++ [b]) [] _, split_acc B (s ++ [rackOf hs y]), h2]
        exact .inr ⟨[], (splitR hs (s ++ [b]) [] [] B).1, [], (splitR hs (s ++ [b]) [] [] B).2, y, by simp, by simp⟩
      · have h3 : rackOf hs y ∉ s ++ [b] := fun z => by
          rcases List.mem_append.mp z with z | z
          · exact h1 z
          · exact h2 (List.mem_singleton.mp z)
        have hb' : b ∉ s ++ [rackOf hs y] := fun z => by
          rcases List.mem_append.mp z with z | z
          · exact hb z
          · exact h2 (List.mem_singleton.mp z).symm
        rw [splitR, splitR, if_neg h1, if_neg h3, split_acc B (s ++ [b] ++ [rackOf hs y]), split_acc B (s ++ [rackOf hs y])]
        have es : splitR hs (s ++ [b] ++ [rackOf hs y]) [] [] B = splitR hs (s ++ [rackOf hs y] ++ [b]) [] [] B := split_set _ _ _ fun x => by simp only [List.mem_append, List.mem_singleton]; constructor <;> (rintro ((z | z) | z) <;> simp [z])
        rw [es]
        rcases split_more (hs := hs) B (s ++ [rackOf hs y]) hb' with e | ⟨F1, F2, O1, O2, x, e1, e2⟩
        · rw [e]; exact .inl rfl
        · rw [e1, e2]
          exact .inr ⟨y :: F1, F2, O1, O2, x, by simp, by simp⟩
/-- o stands in l' at a place of its own, and no other one earlier than in l -/
def Late (o : Str) (l l' : List Str) : Prop := ∃ P Q Q' : List Str, l = P ++ Q ∧ l' = P ++ o :: Q' ∧ Q'.Perm Q ∧ ∀ m, ∀ y ∈ Q'.take m, y ∈ Q.take (m + 1)
theorem late_ins (o : Str) (P Q : List Str) : Late o (P ++ Q) (P ++ o :: Q) := ⟨P, Q, Q, rfl, rfl, .refl _, fun m y hy => (List.take_subset_take_left Q (Nat.le_succ m)) hy⟩
theorem late_move (o x : Str) (P F1 R1 R2 : List Str) : Late o (P ++ (F1 ++ x :: (R1 ++ R2))) (P ++ o :: (F1 ++ (R1 ++ x :: R2))) := by
  refine ⟨P, F1 ++ x :: (R1 ++ R2), F1 ++ (R1 ++ x :: R2), rfl, rfl, ?_, fun m y hy => ?_⟩
  · exact (List.perm_middle (l₁ := R1)).append_left F1
  · rw [List.take_append] at hy ⊢
    rcases List.mem_append.mp hy with hy | hy
    · exact List.mem_append.mpr (.inl ((List.take_subset_take_left F1 (Nat.le_succ m)) hy))
    · refine List.mem_append.mpr (.inr ?_)
      by_cases hm : m ≤ F1.length
      · rw [Nat.sub_eq_zero_of_le hm, List.take_zero] at hy; cases hy
      · rw [show m + 1 - F1.length = (m - F1.length) + 1 by omega, List.take_succ_cons]
        rw [List.take_append] at hy
        rw [List.take_append]
        rcases List.mem_append.mp hy with hy | hy
        · exact List.mem_cons_of_mem _ (List.mem_append.mpr (.inl hy))
        · cases e : m - F1.length - R1.length with
          | zero => rw [e, List.take_zero] at hy; cases hy
          | succ j =>
            rw [e, List.take_succ_cons] at hy
            rcases List.mem_cons.mp hy with rfl | hy
            · exact List.mem_cons_self ..
            · exact List.mem_cons_of_mem _ (List.mem_append.mpr (.inr ((List.take_subset_take_left R2 (Nat.le_succ j)) hy)))
theorem late_take {o : Str} {l l' : List Str} (h : Late o l l') (w : Nat) : (∀ y ∈ l'.take w, y ≠ o → y ∈ l.take w) ∧ (o ∉ l'.take w → l'.take w = l.take w) := by
  obtain ⟨P, Q, Q', rfl, rfl, _, hq⟩ := h
  rw [List.take_append, List.take_append]
  cases e : w - P.length with
  | zero => exact ⟨fun y hy _ => by simpa using hy, fun _ => by simp⟩
  | succ m =>
    refine ⟨fun y hy hne => ?_, fun ho => absurd (List.mem_append.mpr (.inr (by rw [List.take_succ_cons]; exact List.mem_cons_self ..))) ho⟩
    rcases List.mem_append.mp hy with hy | hy
    · exact List.mem_append.mpr (.inl hy)
    · rw [List.take_succ_cons] at hy
      rcases List.mem_cons.mp hy with rfl | hy
      · exact absurd rfl hne
      · exact List.mem_append.mpr (.inr (hq m y hy))
/-- the order in which keepers are taken -/
def ordOf (r : Rule) (hs : List Host) (ns : List Str) : List Str := if r.spread = "racks" then newRacks hs ns else ns
theorem keepers_ord {r : Rule} {hs : List Host} {ns : List Str} : keepersOf r hs ns = (ordOf r hs ns).take r.wide.toNat := rfl
theorem new_late {hs : List Host} {o : Str} (A B : List Str) : Late o (newRacks hs (A ++ B)) (newRacks hs (A ++ o :: B)) := by
  unfold newRacks
  obtain ⟨s, h1, h2⟩ := split_cat (hs := hs) A B []
  obtain ⟨s', h1', h2'⟩ := split_cat (hs := hs) A (o :: B) []
  have hss : ∀ x, x ∈ s' ↔ x ∈ s := fun x => by rw [h1 x, h1' x]
  rw [h2, h2', split_set (o :: B) s' s hss, splitR]
  by_cases hb : rackOf hs o ∈ s
  · rw [if_pos hb, split_acc B s [] ([] ++ [o])]
    have := late_ins o ((splitR hs [] [] [] A).1 ++ (splitR hs s [] [] B).1 ++ (splitR hs [] [] [] A).2) (splitR hs s [] [] B).2
    simpa [List.append_assoc] using this
  · rw [if_neg hb, split_acc B (s ++ _) _ []]
    rcases split_more (hs := hs) (b := rackOf hs o) B s hb with e | ⟨F1, F2, O1, O2, x, e1, e2⟩
    · rw [e]
      have := late_ins o (splitR hs [] [] [] A).1 ((splitR hs s [] [] B).1 ++ ((splitR hs [] [] [] A).2 ++ (splitR hs s [] [] B).2))
      simpa [List.append_assoc] using this
    · rw [e1, e2]
      have := late_move o x (splitR hs [] [] [] A).1 F1 (F2 ++ ((splitR hs [] [] [] A).2 ++ O1)) O2
      simpa [List.append_assoc] using this
end R
set_option maxRecDepth 100000
set_option maxHeartbeats 1000000
namespace R
open PySem PySem.Spec PyProof.Rows L2 DL
local macro_rules | `(tactic| bv_omega) => `(tactic| first | assumption | exact mset_same)
local macro_rules | `(tactic| symm) => `(tactic| first
  | ((with_reducible show ∃ _, _ = _ ∧ _); refine ⟨_, rfl, ?_⟩)
  | ((with_reducible show _ = _ ∧ _); refine ⟨rfl, ?_⟩)
  | ((with_reducible show ∃ _ _, _ = _ ∧ _ = _ ∧ _); refine ⟨_, _, rfl, rfl, ?_⟩)
  | ((with_reducible show ∃ _ _, _ = _ ∧ _); refine ⟨_, _, rfl, ?_⟩)
  | ((with_reducible show ∃ _ _ _, _ = _ ∧ _); refine ⟨_, _, _, rfl, ?_⟩)
  | ((with_reducible show (_ ≤ _ ∧ _) ∧ _); refine ⟨by omega, ?_⟩)
  | with_reducible refine add_int ?_ | with_reducible refine sub_int ?_
  | with_reducible refine lt_int ?_ | with_reducible refine le_int ?_ | with_reducible refine gt_int ?_ | with_reducible refine ge_int ?_
  | with_reducible refine int_int ?_
  | with_reducible refine eq_int ?_ | with_reducible refine ne_int ?_
  | with_reducible refine len_tup ?_ | with_reducible refine len_lst ?_
  | ((with_reducible show rdIx (.cel _) (.int _) _ _); refine ix_cel (by bv_omega) (by rfl) ?_)
  | ((with_reducible show rdIx (.lst _) (.int _) _ _); refine ix_lst (by rfl) ?_)
  | ((with_reducible show rdIx (.tup _) (.int _) _ _); refine ix_tup (by rfl) ?_)
  | ((with_reducible show rdLen [.cel _] _ _); refine len_cel (by bv_omega) ?_)
  | ((with_reducible show rdMul (.int _) (.int _) _ _); first | refine mul_l (by decide) (by decide) ?_ | refine mul_r (by decide) (by decide) ?_ | refine mul_l (by omega) (by omega) ?_ | refine mul_r (by omega) (by omega) ?_)
  | ((with_reducible show rdDiv (.int _) (.int _) _ _); refine div_int (by first | decide | assumption | omega) (by first | decide | assumption | omega) ?_)
  | ((with_reducible show rdDivmod [.int _, .int _] _ _); refine dm_int (by first | decide | assumption | omega) (by first | decide | assumption | omega) ?_)
  | ((with_reducible show @ite _ (_ = true) _ _ _); first | refine ifYes (by first | with_reducible rfl | exact Bool.not_false | assumption) ?_ | refine ifNo (by first | with_reducible rfl | exact Bool.not_true | assumption) ?_)
  | ((with_reducible show ∃ _, _ ∧ _); refine ⟨_, celL_of (by bv_omega), ?_⟩)
  | ((with_reducible show ∃ _ _ _ _, _ ∧ _ ∧ _ ∧ _ ∧ _); refine ⟨_, _, _, _, rfl, rfl, by bv_omega, by rfl, ?_⟩)
  | ((with_reducible show (_ : Nat) ≤ sizeLine ∧ _); refine ⟨by rw [sizeLine_eq]; exact Nat.le_of_ble_eq_true rfl, ?_⟩))
local macro_rules | `(tactic| infer_instance) => `(tactic| ((repeat symm); try dsimp only))
local macro_rules | `(tactic| ac_rfl) => `(tactic| ((repeat (first | symm | ((with_reducible show rdMod (.int _) (.int _) _ _); refine mod_any (by first | decide | assumption | omega) ?_; intro _ _ _))); try dsimp only))
theorem kp_Ring__with_hosts (C : Addr) : Keeps N_Ring__with_hosts 2 (sd_Ring__with_hosts C) (db_Ring__with_hosts C) := by
  rintro ds M q ex hl ⟨size, r, hs, hs', rfl, s0, s1, hr, hc, h⟩
  show db_Ring__with_hosts C _ [some (ringD C size r hs), some (crewD hs'), none] M
  unfold db_Ring__with_hosts
  infer_instance
  refine fld_ring lk_read ?_
  infer_instance
  refine fld_ring lk_points ?_
  infer_instance
  refine fld_ring lk_factor ?_
  infer_instance
  refine fld_ring lk_spread ?_
  infer_instance
  refine fld_ring lk_write ?_
  infer_instance
  refine fld_ring lk_pend ?_
  infer_instance
  intro c hcn
  refine ⟨c, size, r, hs', rfl, mset_same, s0, s1, hr, hc, rfl, fieldsD size r hs', ?_, ?_⟩
  · rw [mset_mset, mset_same]
  · rw [mset_mset]
    exact h _ ((Kept.new hcn).del hcn)
theorem kp_Ring_joined (C : Addr) : Keeps N_Ring_joined 4 (sd_Ring_joined C) (db_Ring_joined C) := by
  rintro ds M q ex hl ⟨size, r, hs, x, b, ms, rfl, s0, s1, hr, hc, h11, hn, h⟩
  show db_Ring_joined C _ [some (ringD C size r hs), some (.str x), some (.str b), some (intsT ms)] M
  unfold db_Ring_joined
  have hno : (hs.length : Int) ≠ 12 := by omega
  infer_instance
  refine fld_ring lk_hosts ?_
  infer_instance
  refine ⟨x, hs, rfl, hn.name, hc.few, fun o ho => ⟨crew_name hc o ho, hn.fresh o ho⟩, ?_⟩
  infer_instance
  refine ⟨b, rfl, hn.rack, ?_⟩
  infer_instance
  refine fld_ring lk_points ?_
  infer_instance
  refine fld_ring lk_hosts ?_
  infer_instance
  refine ⟨ms, size, hs, rfl, hn.marks, hc.few, fun o ho m hm => hn.free o ho m hm, ?_⟩
  infer_instance
  refine fld_ring lk_hosts ?_
  infer_instance
  rw [List.length_map, decide_eq_false hno]
  infer_instance
  refine ⟨_, fs_ring, lk_withh, ?_⟩
  infer_instance
  refine fld_ring lk_hosts ?_
  infer_instance
  refine add_tup (by rw [List.length_map, sizeLine_eq]; simp only [List.length_cons, List.length_nil]; omega) ?_
  infer_instance
  exact ⟨size, r, hs, hs ++ [⟨x, b, ms⟩], (by unfold crewD; rw [List.map_append]; rfl), s0, s1, hr, crew_snoc hc h11 hn, h⟩
theorem kp_Ring_left (C : Addr) : Keeps N_Ring_left 2 (sd_Ring_left C) (db_Ring_left C) := by
  rintro ds M q ex hl ⟨size, r, hs, x, rfl, s0, s1, hr, hc, hx, h2, h⟩
  show db_Ring_left C _ [some (ringD C size r hs), some (.str x), none] M
  unfold db_Ring_left
  have hno : (hs.length : Int) ≠ 1 := by omega
  have hf := hc.few
  infer_instance
  refine ⟨size, r, hs, x, rfl, hc.few, hx, ?_⟩
  infer_instance
  refine fld_ring lk_hosts ?_
  infer_instance
  rw [List.length_map, decide_eq_false hno]
  infer_instance
  refine ⟨_, fs_ring, lk_withh, ?_⟩
  infer_instance
  refine fld_ring lk_hosts ?_
  infer_instance
  intro c hcn
  refine lc_pure (fun d => match d with | .tup (.str y :: _) => !decide (y = x) | _ => false) id hcn (by rw [List.length_map, sizeLine_eq]; omega) (fun _ => rfl) (fun y hy acc hz nx hyes hno => ?_) ?_
  · obtain ⟨o, ho, rfl⟩ := List.mem_map.mp hy
    infer_instance
    refine ne_strA ?_
    infer_instance
    refine ifB (fun hb => ?_) (fun hb => ?_)
    · infer_instance
      exact acc_put hz (hyes hb)
    · exact hno hb
  · have e : ((hs.map hostD).filter fun d => match d with | .tup (.str y :: _) => !decide (y = x) | _ => false).map id = (hs.filter fun h => !decide (h.name = x)).map hostD := by
      rw [List.map_id, List.filter_map]
      rfl
    rw [e]
    infer_instance
    refine ⟨_, _, rfl, rfl, ?_⟩
    infer_instance
    have hll := left_len hc hx
    exact ⟨size, r, hs, hs.filter fun h => !decide (h.name = x), rfl, s0, s1, hr, crew_filter _ hc (fun e => by rw [e] at hll; simp at hll; omega), h⟩
end R
set_option maxRecDepth 100000
set_option maxHeartbeats 1000000
namespace R
open PySem PySem.Spec PyProof.Rows L2 DL
local macro_rules | `(tactic| bv_omega) => `(tactic| first | assumption | exact mset_same)
local macro_rules | `(tactic| symm) => `(tactic| first
  | ((with_reducible show ∃ _, _ = _ ∧ _); refine ⟨_, rfl, ?_⟩)
  | ((with_reducible show _ = _ ∧ _); refine ⟨rfl, ?_⟩)
  | ((with_reducible show ∃ _ _, _ = _ ∧ _ = _ ∧ _); refine ⟨_, _, rfl, rfl, ?_⟩)
  | ((with_reducible show ∃ _ _, _ = _ ∧ _); refine ⟨_, _, rfl, ?_⟩)
  | ((with_reducible show ∃ _ _ _, _ = _ ∧ _); refine ⟨_, _, _, rfl, ?_⟩)
  | ((with_reducible show (_ ≤ _ ∧ _) ∧ _); refine ⟨by omega, ?_⟩)
  | with_reducible refine add_int ?_ | with_reducible refine sub_int ?_
  | with_reducible refine lt_int ?_ | with_reducible refine le_int ?_ | with_reducible refine gt_int ?_ | with_reducible refine ge_int ?_
  | with_reducible refine int_int ?_
  | with_reducible refine eq_int ?_ | with_reducible refine ne_int ?_
  | with_reducible refine len_tup ?_ | with_reducible refine len_lst ?_
  | ((with_reducible show rdIx (.cel _) (.int _) _ _); refine ix_cel (by bv_omega) (by rfl) ?_)
  | ((with_reducible show rdIx (.lst _) (.int _) _ _); refine ix_lst (by rfl) ?_)
  | ((with_reducible show rdIx (.tup _) (.int _) _ _); refine ix_tup (by rfl) ?_)
  | ((with_reducible show rdLen [.cel _] _ _); refine len_cel (by bv_omega) ?_)
  | ((with_reducible show rdMul (.int _) (.int _) _ _); first | refine mul_l (by decide) (by decide) ?_ | refine mul_r (by decide) (by decide) ?_ | refine mul_l (by omega) (by omega) ?_ | refine mul_r (by omega) (by omega) ?_)
  | ((with_reducible show rdDiv (.int _) (.int _) _ _); refine div_int (by first | decide | assumption | omega) (by first | decide | assumption | omega) ?_)
  | ((with_reducible show rdDivmod [.int _, .int _] _ _); refine dm_int (by first | decide | assumption | omega) (by first | decide | assumption | omega) ?_)
  | ((with_reducible show @ite _ (_ = true) _ _ _); first | refine ifYes (by first | with_reducible rfl | exact Bool.not_false | assumption) ?_ | refine ifNo (by first | with_reducible rfl | exact Bool.not_true | assumption) ?_)
  | ((with_reducible show ∃ _, _ ∧ _); refine ⟨_, celL_of (by bv_omega), ?_⟩)
  | ((with_reducible show ∃ _ _ _ _, _ ∧ _ ∧ _ ∧ _ ∧ _); refine ⟨_, _, _, _, rfl, rfl, by bv_omega, by rfl, ?_⟩)
  | ((with_reducible show (_ : Nat) ≤ sizeLine ∧ _); refine ⟨by rw [sizeLine_eq]; exact Nat.le_of_ble_eq_true rfl, ?_⟩))
local macro_rules | `(tactic| infer_instance) => `(tactic| ((repeat symm); try dsimp only))
local macro_rules | `(tactic| ac_rfl) => `(tactic| ((repeat (first | symm | ((with_reducible show rdMod (.int _) (.int _) _ _); refine mod_any (by first | decide | assumption | omega) ?_; intro _ _ _))); try dsimp only))
def hostPy (h : Host) : PyData := .tuple [.str h.name, .str h.rack, .tuple (h.marks.map PyData.int)]
def crewPy (hs : List Host) : PyData := .tuple (hs.map hostPy)
theorem toPy_host (h : Host) : toPy (hostD h) = some (hostPy h) := by
  have e : toPy (intsT h.marks) = some (.tuple (h.marks.map PyData.int)) := by
    show (toPys (h.marks.map D.int)).map PyData.tuple = _
    rw [toPys_int]; rfl
  show (toPys [.str h.name, .str h.rack, intsT h.marks]).map PyData.tuple = _
  have e2 : toPys [.str h.name, .str h.rack, intsT h.marks] = some [.str h.name, .str h.rack, .tuple (h.marks.map PyData.int)] := by
    simp only [toPys, e]
    rfl
  rw [e2]; rfl
theorem toPys_hosts : ∀ hs : List Host, toPys (hs.map hostD) = some (hs.map hostPy)
  | [] => rfl
  | h :: hs => by
    rw [List.map_cons, List.map_cons]
    simp only [toPys, toPy_host, toPys_hosts hs]
theorem py_crew (M : Mem) (hs : List Host) : pyOf M (crewD hs) = some (crewPy hs) := by
  show (toPys (hs.map hostD)).map PyData.tuple = _
  rw [toPys_hosts]; rfl
theorem lay_ints : ∀ ms : List Int, PyData.canLayAll0 (ms.map PyData.int) = true ∧ PyData.depthAll (ms.map PyData.int) = 0
  | [] => ⟨rfl, rfl⟩
  | m :: ms => by
    obtain ⟨h1, h2⟩ := lay_ints ms
    rw [List.map_cons]
    exact ⟨by simp [PyData.canLayAll0, PyData.canLay0, h1], by simp [PyData.depthAll, PyData.depth, h2]⟩
theorem lay_host {h : Host} (h1 : nameB h.name = true) (h2 : nameB h.rack = true) : PyData.canLay0 (hostPy h) = true ∧ PyData.depth (hostPy h) ≤ 2 := by
  obtain ⟨a, b⟩ := lay_ints h.marks
  unfold hostPy
  exact ⟨by simp [PyData.canLay0, PyData.canLayAll0, name_ok h1, name_ok h2, a], by simp [PyData.depth, PyData.depthAll, b]⟩
theorem lay_crew : ∀ {hs : List Host}, (∀ h ∈ hs, nameB h.name = true ∧ nameB h.rack = true) → PyData.canLayAll0 (hs.map hostPy) = true ∧ PyData.depthAll (hs.map hostPy) ≤ 2
  | [], _ => ⟨rfl, by simp [PyData.depthAll]⟩
  | h :: hs, hh => by
    obtain ⟨h1, h2⟩ := lay_crew fun o ho => hh o (List.mem_cons_of_mem _ ho)
    obtain ⟨h3, h4⟩ := lay_host (hh h (by simp)).1 (hh h (by simp)).2
    rw [List.map_cons]
    exact ⟨by simp [PyData.canLayAll0, h1, h3], by simp only [PyData.depthAll]; omega⟩
end R
set_option maxRecDepth 100000
set_option maxHeartbeats 1000000
namespace R
open PySem PySem.Spec PyProof.Rows L2 DL
local macro_rules | `(tactic| bv_omega) => `(tactic| first | assumption | exact mset_same)
local macro_rules | `(tactic| symm) => `(tactic| first
  | ((with_reducible show ∃ _, _ = _ ∧ _); refine ⟨_, rfl, ?_⟩)
  | ((with_reducible show _ = _ ∧ _); refine ⟨rfl, ?_⟩)
  | ((with_reducible show ∃ _ _, _ = _ ∧ _ = _ ∧ _); refine ⟨_, _, rfl, rfl, ?_⟩)
  | ((with_reducible show ∃ _ _, _ = _ ∧ _); refine ⟨_, _, rfl, ?_⟩)
  | ((with_reducible show ∃ _ _ _, _ = _ ∧ _); refine ⟨_, _, _, rfl, ?_⟩)
  | ((with_reducible show (_ ≤ _ ∧ _) ∧ _); refine ⟨by omega, ?_⟩)
  | with_reducible refine add_int ?_ | with_reducible refine sub_int ?_
  | with_reducible refine lt_int ?_ | with_reducible refine le_int ?_ | with_reducible refine gt_int ?_ | with_reducible refine ge_int ?_
  | with_reducible refine int_int ?_
  | with_reducible refine eq_int ?_ | with_reducible refine ne_int ?_
  | with_reducible refine len_tup ?_ | with_reducible refine len_lst ?_
  | ((with_reducible show rdIx (.cel _) (.int _) _ _); refine ix_cel (by bv_omega) (by rfl) ?_)
  | ((with_reducible show rdIx (.lst _) (.int _) _ _); refine ix_lst (by rfl) ?_)
  | ((with_reducible show rdIx (.tup _) (.int _) _ _); refine ix_tup (by rfl) ?_)
  | ((with_reducible show rdLen [.cel _] _ _); refine len_cel (by bv_omega) ?_)
  | ((with_reducible show rdMul (.int _) (.int _) _ _); first | refine mul_l (by decide) (by decide) ?_ | refine mul_r (by decide) (by decide) ?_ | refine mul_l (by omega) (by omega) ?_ | refine mul_r (by omega) (by omega) ?_)
  | ((with_reducible show rdDiv (.int _) (.int _) _ _); refine div_int (by first | decide | assumption | omega) (by first | decide | assumption | omega) ?_)
  | ((with_reducible show rdDivmod [.int _, .int _] _ _); refine dm_int (by first | decide | assumption | omega) (by first | decide | assumption | omega) ?_)
  | ((with_reducible show @ite _ (_ = true) _ _ _); first | refine ifYes (by first | with_reducible rfl | exact Bool.not_false | assumption) ?_ | refine ifNo (by first | with_reducible rfl | exact Bool.not_true | assumption) ?_)
  | ((with_reducible show ∃ _, _ ∧ _); refine ⟨_, celL_of (by bv_omega), ?_⟩)
  | ((with_reducible show ∃ _ _ _ _, _ ∧ _ ∧ _ ∧ _ ∧ _); refine ⟨_, _, _, _, rfl, rfl, by bv_omega, by rfl, ?_⟩)
  | ((with_reducible show (_ : Nat) ≤ sizeLine ∧ _); refine ⟨by rw [sizeLine_eq]; exact Nat.le_of_ble_eq_true rfl, ?_⟩))
local macro_rules | `(tactic| infer_instance) => `(tactic| ((repeat symm); try dsimp only))
local macro_rules | `(tactic| ac_rfl) => `(tactic| ((repeat (first | symm | ((with_reducible show rdMod (.int _) (.int _) _ _); refine mod_any (by first | decide | assumption | omega) ?_; intro _ _ _))); try dsimp only))
theorem piledN {n : Nat} : ∀ {xs : List Str}, (∀ x ∈ xs, x.length ≤ n) → piled xs ≤ (n + 2) * xs.length
  | [], _ => by simp [piled]
  | x :: xs, h => by
    rw [piled_cons, List.length_cons, Nat.mul_add]
    have := h x List.mem_cons_self
    have := piledN fun y hy => h y (List.mem_cons_of_mem _ hy)
    omega
theorem tup_le (ts : List Str) : (tupleText ts).length ≤ 3 + piled ts := by
  unfold tupleText
  rw [strLen_append, strLen_append]
  have hj : (Str.join ", " ts).length ≤ piled ts := by
    cases ts with
    | nil => decide +kernel
    | cons x r =>
      have := join_length_add (x :: r) (by simp)
      omega
  have h4 : ("(" : Str).length = 1 := rfl
  have h5 : ((if ts.length == 1 then ",)" else ")" : String) : Str).length ≤ 2 := by
    split <;> decide +kernel
  omega
theorem shownAll_len : ∀ xs : List PyData, (PyData.shownAll xs).length = xs.length
  | [] => by simp [PyData.shownAll]
  | x :: xs => by rw [PyData.shownAll, List.length_cons, List.length_cons, shownAll_len xs]
theorem lst_le (ts : List Str) : (("[" : Str) ++ Str.join ", " ts ++ "]").length ≤ 3 + piled ts := by
  rw [strLen_append, strLen_append]
  have hj : (Str.join ", " ts).length ≤ piled ts := by
    cases ts with
    | nil => decide +kernel
    | cons x r =>
      have := join_length_add (x :: r) (by simp)
      omega
  have h4 : ("[" : Str).length = 1 := rfl
  have h5 : ("]" : Str).length = 1 := rfl
  omega
end R
set_option maxRecDepth 100000
set_option maxHeartbeats 4000000
namespace DL
open PySem PySem.Spec PyProof.Rows L2 PySem.Calls
end DL
set_option maxRecDepth 100000
set_option maxHeartbeats 4000000
namespace DL
open PySem PySem.Spec PyProof.Rows L2 PySem.Calls
end DL
set_option maxRecDepth 100000
set_option maxHeartbeats 4000000
namespace DL
open PySem PySem.Spec PyProof.Rows L2
end DL
set_option maxRecDepth 100000
set_option maxHeartbeats 4000000
namespace DL
open PySem PySem.Spec PyProof.Rows L2
end DL
set_option maxRecDepth 100000
set_option maxHeartbeats 4000000
namespace DL
open PySem PySem.Spec PyProof.Rows L2
section
variable {X : Cx} {W : WX} {tg : Expr}
@[reducible] def rdRevL : RD1 := fun x M q => ∃ xs, lsqOf M x = some xs ∧ q (.lst xs.reverse) M
@[reducible] def dRevL (de : DE) : DE := fun env M q E => de env M (fun x M1 => rdRevL x M1 q) E
theorem pd_revL {e : Expr} {de : DE} {k : Nat} {p1 p2 p3 pos : Pos} (he : PD X W e de) : PD X W (.Subscript e (.Slice none none (some (.UnaryOp .USub (.Constant (.int 1) k p1) p2)) p3) pos) (dRevL de) :=
  peImp (pe_revL he) fun σ H Q ⟨env, M, q, E, H0, so, S, h, k, kx⟩ => ⟨env, M, _, E, H0, so, S, h, fun v d H1 H' M1 e1 S1 rv w => by
    obtain ⟨xs, e, w⟩ := w
    obtain ⟨a, vs, rfl, hs, r⟩ := S1.lsq rv e
    exact ⟨_, _, rfl, hs, (k.mono e1).newL S1 r.rev w⟩, kx⟩
end
end DL
set_option maxRecDepth 100000
namespace DL
open PySem PySem.Spec PyProof.Rows L2
end DL
set_option maxRecDepth 100000
set_option maxHeartbeats 4000000
namespace DL
open PySem PySem.Spec PyProof.Rows L2
end DL
set_option maxRecDepth 100000
set_option maxHeartbeats 4000000
namespace DL
open PySem PySem.Spec PyProof.Rows L2 PySem.Calls
end DL
set_option maxRecDepth 100000
set_option maxHeartbeats 4000000
namespace DL
open PySem PySem.Spec PyProof.Rows L2
section
variable {α : Type} {ok : Mem → Prop} {g : GD} {body : DS} {d : EndD}
theorem for_map (emb : α → D) {xs : List α} (I : Nat → EnvD → Mem → Prop) (h0 : ∀ env M, I xs.length env M → ok M ∧ d.nx env M)
    (hs : ∀ i x env M, xs[i]? = some x → I i env M → ∀ nx : EnvD → Mem → Prop, (∀ env' M', I (i + 1) env' M' → nx env' M') → ok M ∧ g (emb x) env M (fun env' M' => body { d with nx := nx, ct := nx, bk := d.nx } env' M') d.ex) (env : EnvD) (M : Mem) (h : I 0 env M) : forW ok g body d (xs.map emb) env M := by
  refine for_lst I (by rw [List.length_map]; exact h0) (fun i x env M hx hI nx hn => ?_) env M h
  rw [List.getElem?_map] at hx
  obtain ⟨y, hy, rfl⟩ := omap hx
  exact hs i y env M hy hI nx hn
end
section
variable {α β : Type} {ok : Mem → Prop} {g : GD} {t : DT} {de : DE} {env : EnvD} {q : QD} {c : Addr} {M : Mem}
theorem lc_map (emb : α → D) (p : α → Bool) (f : α → D) {xs : List α} (hc : M c = none) (hn : xs.length ≤ sizeLine) (hok : ∀ acc, ok (mset M c (.ls acc)))
    (hs : ∀ x, x ∈ xs → ∀ (acc : List D), acc.length < sizeLine → ∀ nx : Mem → Prop, (p x = true → nx (mset M c (.ls (acc ++ [f x])))) → (p x = false → nx (mset M c (.ls acc))) →
      g (emb x) env (mset M c (.ls acc)) (fun env' M' => t env' M' (fun b M2 => if b = true then de env' M2 (fun y M3 => ∃ ys, M3 c = some (.ls ys) ∧ ys.length < sizeLine ∧ nx (mset M3 c (.ls (ys ++ [y])))) noX else nx M2) noX) (fun _ => noX))
    (hq : q (.lst ((xs.filter p).map f)) M) : lcW ok g t de env q c (xs.map emb) (mset M c (.ls [])) := by
  refine lc_lst (fun i M' => M' = mset M c (.ls (((xs.take i).filter p).map f))) (fun M' e => ?_) (fun i x M' hx e nx hnx => ?_) _ (by rw [List.take_zero]; rfl)
  · subst e
    rw [List.length_map, List.take_length]
    refine ⟨hok _, _, mset_same, ?_⟩
    rw [mdel_mset hc]; exact hq
  · subst e
    rw [List.getElem?_map] at hx
    obtain ⟨y, hy, rfl⟩ := omap hx
    have hi := (List.getElem?_eq_some_iff.mp hy).1
    have e1 : xs.take (i + 1) = xs.take i ++ [y] := by rw [List.take_add_one, hy]; rfl
    refine ⟨hok _, hs y (List.mem_of_getElem? hy) _ ?_ nx (fun hp => ?_) fun hp => ?_⟩
    · rw [List.length_map]
      have h1 := List.length_filter_le p (xs.take i)
      rw [List.length_take] at h1
      omega
    · refine hnx _ ?_
      rw [e1, List.filter_append, List.map_append, List.filter_cons, if_pos hp]; rfl
    · refine hnx _ ?_
      rw [e1, List.filter_append, List.map_append, List.filter_cons, if_neg (by rw [hp]; exact Bool.false_ne_true), List.filter_nil, List.map_nil, List.append_nil]
/-- no test -/
theorem lc_all (emb : α → D) (f : α → D) {xs : List α} (hc : M c = none) (hn : xs.length ≤ sizeLine) (hok : ∀ acc, ok (mset M c (.ls acc)))
    (hs : ∀ x, x ∈ xs → ∀ (acc : List D), acc.length < sizeLine → ∀ nx : Mem → Prop, nx (mset M c (.ls (acc ++ [f x]))) →
      g (emb x) env (mset M c (.ls acc)) (fun env' M' => t env' M' (fun b M2 => if b = true then de env' M2 (fun y M3 => ∃ ys, M3 c = some (.ls ys) ∧ ys.length < sizeLine ∧ nx (mset M3 c (.ls (ys ++ [y])))) noX else nx M2) noX) (fun _ => noX))
    (hq : q (.lst (xs.map f)) M) : lcW ok g t de env q c (xs.map emb) (mset M c (.ls [])) :=
  lc_map emb (fun _ => true) f hc hn hok (fun x hx acc hz nx h1 _ => hs x hx acc hz nx (h1 rfl)) (by rw [List.filter_eq_self.mpr fun _ _ => rfl]; exact hq)
end
end DL
set_option maxRecDepth 100000
set_option maxHeartbeats 1000000
namespace R
open PySem PySem.Spec PyProof.Rows L2 DL
local macro_rules | `(tactic| bv_omega) => `(tactic| first | assumption | exact mset_same)
local macro_rules | `(tactic| symm) => `(tactic| first
  | ((with_reducible show ∃ _, _ = _ ∧ _); refine ⟨_, rfl, ?_⟩)
  | ((with_reducible show _ = _ ∧ _); refine ⟨rfl, ?_⟩)
  | ((with_reducible show ∃ _ _, _ = _ ∧ _ = _ ∧ _); refine ⟨_, _, rfl, rfl, ?_⟩)
  | ((with_reducible show ∃ _ _, _ = _ ∧ _); refine ⟨_, _, rfl, ?_⟩)
  | ((with_reducible show ∃ _ _ _, _ = _ ∧ _); refine ⟨_, _, _, rfl, ?_⟩)
  | ((with_reducible show (_ ≤ _ ∧ _) ∧ _); refine ⟨by omega, ?_⟩)
  | with_reducible refine add_int ?_ | with_reducible refine sub_int ?_
  | with_reducible refine lt_int ?_ | with_reducible refine le_int ?_ | with_reducible refine gt_int ?_ | with_reducible refine ge_int ?_
  | with_reducible refine int_int ?_
  | with_reducible refine eq_int ?_ | with_reducible refine ne_int ?_
  | with_reducible refine len_tup ?_ | with_reducible refine len_lst ?_
  | ((with_reducible show rdIx (.cel _) (.int _) _ _); refine ix_cel (by bv_omega) (by rfl) ?_)
  | ((with_reducible show rdIx (.lst _) (.int _) _ _); refine ix_lst (by rfl) ?_)
  | ((with_reducible show rdIx (.tup _) (.int _) _ _); refine ix_tup (by rfl) ?_)
  | ((with_reducible show rdLen [.cel _] _ _); refine len_cel (by bv_omega) ?_)
  | ((with_reducible show rdMul (.int _) (.int _) _ _); first | refine mul_l (by decide) (by decide) ?_ | refine mul_r (by decide) (by decide) ?_ | refine mul_l (by omega) (by omega) ?_ | refine mul_r (by omega) (by omega) ?_)
  | ((with_reducible show rdDiv (.int _) (.int _) _ _); refine div_int (by first | decide | assumption | omega) (by first | decide | assumption | omega) ?_)
  | ((with_reducible show rdDivmod [.int _, .int _] _ _); refine dm_int (by first | decide | assumption | omega) (by first | decide | assumption | omega) ?_)
  | ((with_reducible show @ite _ (_ = true) _ _ _); first | refine ifYes (by first | with_reducible rfl | exact Bool.not_false | assumption) ?_ | refine ifNo (by first | with_reducible rfl | exact Bool.not_true | assumption) ?_)
  | ((with_reducible show ∃ _, _ ∧ _); refine ⟨_, celL_of (by bv_omega), ?_⟩)
  | ((with_reducible show ∃ _ _ _ _, _ ∧ _ ∧ _ ∧ _ ∧ _); refine ⟨_, _, _, _, rfl, rfl, by bv_omega, by rfl, ?_⟩)
  | ((with_reducible show (_ : Nat) ≤ sizeLine ∧ _); refine ⟨by rw [sizeLine_eq]; exact Nat.le_of_ble_eq_true rfl, ?_⟩))
local macro_rules | `(tactic| infer_instance) => `(tactic| ((repeat symm); try dsimp only))
local macro_rules | `(tactic| ac_rfl) => `(tactic| ((repeat (first | symm | ((with_reducible show rdMod (.int _) (.int _) _ _); refine mod_any (by first | decide | assumption | omega) ?_; intro _ _ _))); try dsimp only))
theorem way_ex {size p : Int} : ∀ {ms : List Int}, ms ≠ [] → ∃ m, IsWay size p ms m := by
  intro ms hne
  have key : ∀ xs : List Int, xs ≠ [] → ∃ m ∈ xs, ∀ y ∈ xs, m ≤ y := by
    intro xs
    induction xs with
    | nil => intro h; exact absurd rfl h
    | cons a r ih =>
      intro _
      by_cases hr : r = []
      · subst hr; exact ⟨a, by simp, fun y hy => by rw [List.mem_singleton.mp hy]; exact Int.le_refl _⟩
      · obtain ⟨m, hm, hle⟩ := ih hr
        by_cases h : a ≤ m
        · exact ⟨a, by simp, fun y hy => by rcases List.mem_cons.mp hy with rfl | hy; exact Int.le_refl _; exact Int.le_trans h (hle y hy)⟩
        · exact ⟨m, List.mem_cons_of_mem _ hm, fun y hy => by rcases List.mem_cons.mp hy with rfl | hy; omega; exact hle y hy⟩
  obtain ⟨m, hm, hle⟩ := key (ms.map fun k => (k - p) % size) (by simpa using hne)
  exact ⟨m, hm, hle⟩
theorem walk_ex {size : Int} {hs : List Host} (hc : CrewOk size hs) (p : Int) : ∃ ns, WalkOf size p hs ns := by
  have hex : ∀ h ∈ hs, ∃ m, IsWay size p h.marks m := fun h hh => way_ex fun z => by have := (crew_marks hc h hh).ne; rw [z] at this; simp at this
  have key : ∀ l : List Host, (∀ h ∈ l, ∃ m, IsWay size p h.marks m) → ∃ ws : List (Int × Str), ws.map (·.2) = l.map (·.name) ∧ ∀ a ∈ ws, ∃ h ∈ l, h.name = a.2 ∧ IsWay size p h.marks a.1 := by
    intro l
    induction l with
    | nil => intro _; exact ⟨[], rfl, fun a ha => by simp at ha⟩
    | cons h l ih =>
      intro hh
      obtain ⟨ws, e, ha⟩ := ih fun x hx => hh x (List.mem_cons_of_mem _ hx)
      obtain ⟨m, hm⟩ := hh h (by simp)
      refine ⟨(m, h.name) :: ws, by simp [e], fun a haa => ?_⟩
      rcases List.mem_cons.mp haa with rfl | haa
      · exact ⟨h, by simp, rfl, hm⟩
      · obtain ⟨o, ho, z⟩ := ha a haa
        exact ⟨o, List.mem_cons_of_mem _ ho, z⟩
  obtain ⟨ws, e, ha⟩ := key hs hex
  have hp := List.mergeSort_perm ws (fun a b => decide (a.1 ≤ b.1))
  have hs2 := List.pairwise_mergeSort (le := fun a b : Int × Str => decide (a.1 ≤ b.1)) (fun a b c h1 h2 => by simp at h1 h2 ⊢; omega) (fun a b => by simp; omega) ws
  refine ⟨_, ws.mergeSort (fun a b => decide (a.1 ≤ b.1)), hs2.imp fun h => by simpa using h, rfl, ?_, fun a haa => ha a (hp.mem_iff.mp haa)⟩
  rw [← e]
  exact hp.map _
open Classical in
noncomputable def walkF (size : Int) (hs : List Host) (p : Int) : List Str := if h : ∃ ns, WalkOf size p hs ns then h.choose else []
theorem walkF_ok {size : Int} {hs : List Host} (hc : CrewOk size hs) (p : Int) : WalkOf size p hs (walkF size hs p) := by
  unfold walkF
  rw [dif_pos (walk_ex hc p)]
  exact (walk_ex hc p).choose_spec
theorem walk_eq {size : Int} {hs : List Host} (hc : CrewOk size hs) {p : Int} {ns : List Str} (h : WalkOf size p hs ns) : ns = walkF size hs p := walk_uniq hc h (walkF_ok hc p)
/-- the keepers of a key -/
noncomputable def keepF (size : Int) (r : Rule) (hs : List Host) (p : Int) : List Str := keepersOf r hs (walkF size hs p)
def sd_check_ring (C : Addr) : SpD := fun ds M q _ => ∃ (size : Int) (r : Rule) (hs : List Host), ds = [ringD C size r hs] ∧ q .non M
end R
set_option maxRecDepth 100000
namespace R
open PySem PySem.Spec PyProof.Rows L2 DL
abbrev N_check_ring : List Str := ["ring"]
def db_check_ring (C : Addr) : DS :=
    (dIfS (dNot (dTru (dIsiC C (dVar 0)))) dNever dNext)
end R
set_option maxRecDepth 100000
set_option maxHeartbeats 1000000
namespace R
open PySem PySem.Spec PyProof.Rows L2 DL
local macro_rules | `(tactic| bv_omega) => `(tactic| first | assumption | exact mset_same)
local macro_rules | `(tactic| symm) => `(tactic| first
  | ((with_reducible show ∃ _, _ = _ ∧ _); refine ⟨_, rfl, ?_⟩)
  | ((with_reducible show _ = _ ∧ _); refine ⟨rfl, ?_⟩)
  | ((with_reducible show ∃ _ _, _ = _ ∧ _ = _ ∧ _); refine ⟨_, _, rfl, rfl, ?_⟩)
  | ((with_reducible show ∃ _ _, _ = _ ∧ _); refine ⟨_, _, rfl, ?_⟩)
  | ((with_reducible show ∃ _ _ _, _ = _ ∧ _); refine ⟨_, _, _, rfl, ?_⟩)
  | ((with_reducible show (_ ≤ _ ∧ _) ∧ _); refine ⟨by omega, ?_⟩)
  | with_reducible refine add_int ?_ | with_reducible refine sub_int ?_
  | with_reducible refine lt_int ?_ | with_reducible refine le_int ?_ | with_reducible refine gt_int ?_ | with_reducible refine ge_int ?_
  | with_reducible refine int_int ?_
  | with_reducible refine eq_int ?_ | with_reducible refine ne_int ?_
  | with_reducible refine len_tup ?_ | with_reducible refine len_lst ?_
  | ((with_reducible show rdIx (.cel _) (.int _) _ _); refine ix_cel (by bv_omega) (by rfl) ?_)
  | ((with_reducible show rdIx (.lst _) (.int _) _ _); refine ix_lst (by rfl) ?_)
  | ((with_reducible show rdIx (.tup _) (.int _) _ _); refine ix_tup (by rfl) ?_)
  | ((with_reducible show rdLen [.cel _] _ _); refine len_cel (by bv_omega) ?_)
  | ((with_reducible show rdMul (.int _) (.int _) _ _); first | refine mul_l (by decide) (by decide) ?_ | refine mul_r (by decide) (by decide) ?_ | refine mul_l (by omega) (by omega) ?_ | refine mul_r (by omega) (by omega) ?_)
  | ((with_reducible show rdDiv (.int _) (.int _) _ _); refine div_int (by first | decide | assumption | omega) (by first | decide | assumption | omega) ?_)
  | ((with_reducible show rdDivmod [.int _, .int _] _ _); refine dm_int (by first | decide | assumption | omega) (by first | decide | assumption | omega) ?_)
  | ((with_reducible show @ite _ (_ = true) _ _ _); first | refine ifYes (by first | with_reducible rfl | exact Bool.not_false | assumption) ?_ | refine ifNo (by first | with_reducible rfl | exact Bool.not_true | assumption) ?_)
  | ((with_reducible show ∃ _, _ ∧ _); refine ⟨_, celL_of (by bv_omega), ?_⟩)
  | ((with_reducible show ∃ _ _ _ _, _ ∧ _ ∧ _ ∧ _ ∧ _); refine ⟨_, _, _, _, rfl, rfl, by bv_omega, by rfl, ?_⟩)
  | ((with_reducible show (_ : Nat) ≤ sizeLine ∧ _); refine ⟨by rw [sizeLine_eq]; exact Nat.le_of_ble_eq_true rfl, ?_⟩))
local macro_rules | `(tactic| infer_instance) => `(tactic| ((repeat symm); try dsimp only))
local macro_rules | `(tactic| ac_rfl) => `(tactic| ((repeat (first | symm | ((with_reducible show rdMod (.int _) (.int _) _ _); refine mod_any (by first | decide | assumption | omega) ?_; intro _ _ _))); try dsimp only))
theorem kp_check_ring (C : Addr) : Keeps N_check_ring 1 (sd_check_ring C) (db_check_ring C) := by
  rintro ds M q ex hl ⟨size, r, hs, rfl, h⟩
  show db_check_ring C _ [some (ringD C size r hs)] M
  unfold db_check_ring
  infer_instance
  refine .inl ⟨⟨_, fs_ring⟩, ?_⟩
  infer_instance
  exact h
theorem walkF_in {size p : Int} {hs : List Host} (hc : CrewOk size hs) : ∀ x ∈ walkF size hs p, x ∈ hs.map (·.name) := walk_in (walkF_ok hc p)
end R
set_option maxRecDepth 100000
set_option maxHeartbeats 1000000
namespace R
open PySem PySem.Spec PyProof.Rows L2 DL
local macro_rules | `(tactic| bv_omega) => `(tactic| first | assumption | exact mset_same)
local macro_rules | `(tactic| symm) => `(tactic| first
  | ((with_reducible show ∃ _, _ = _ ∧ _); refine ⟨_, rfl, ?_⟩)
  | ((with_reducible show _ = _ ∧ _); refine ⟨rfl, ?_⟩)
  | ((with_reducible show ∃ _ _, _ = _ ∧ _ = _ ∧ _); refine ⟨_, _, rfl, rfl, ?_⟩)
  | ((with_reducible show ∃ _ _, _ = _ ∧ _); refine ⟨_, _, rfl, ?_⟩)
  | ((with_reducible show ∃ _ _ _, _ = _ ∧ _); refine ⟨_, _, _, rfl, ?_⟩)
  | ((with_reducible show (_ ≤ _ ∧ _) ∧ _); refine ⟨by omega, ?_⟩)
  | with_reducible refine add_int ?_ | with_reducible refine sub_int ?_
  | with_reducible refine lt_int ?_ | with_reducible refine le_int ?_ | with_reducible refine gt_int ?_ | with_reducible refine ge_int ?_
  | with_reducible refine int_int ?_
  | with_reducible refine eq_int ?_ | with_reducible refine ne_int ?_
  | with_reducible refine len_tup ?_ | with_reducible refine len_lst ?_
  | ((with_reducible show rdIx (.cel _) (.int _) _ _); refine ix_cel (by bv_omega) (by rfl) ?_)
  | ((with_reducible show rdIx (.lst _) (.int _) _ _); refine ix_lst (by rfl) ?_)
  | ((with_reducible show rdIx (.tup _) (.int _) _ _); refine ix_tup (by rfl) ?_)
  | ((with_reducible show rdLen [.cel _] _ _); refine len_cel (by bv_omega) ?_)
  | ((with_reducible show rdMul (.int _) (.int _) _ _); first | refine mul_l (by decide) (by decide) ?_ | refine mul_r (by decide) (by decide) ?_ | refine mul_l (by omega) (by omega) ?_ | refine mul_r (by omega) (by omega) ?_)
  | ((with_reducible show rdDiv (.int _) (.int _) _ _); refine div_int (by first | decide | assumption | omega) (by first | decide | assumption | omega) ?_)
  | ((with_reducible show rdDivmod [.int _, .int _] _ _); refine dm_int (by first | decide | assumption | omega) (by first | decide | assumption | omega) ?_)
  | ((with_reducible show @ite _ (_ = true) _ _ _); first | refine ifYes (by first | with_reducible rfl | exact Bool.not_false | assumption) ?_ | refine ifNo (by first | with_reducible rfl | exact Bool.not_true | assumption) ?_)
  | ((with_reducible show ∃ _, _ ∧ _); refine ⟨_, celL_of (by bv_omega), ?_⟩)
  | ((with_reducible show ∃ _ _ _ _, _ ∧ _ ∧ _ ∧ _ ∧ _); refine ⟨_, _, _, _, rfl, rfl, by bv_omega, by rfl, ?_⟩)
  | ((with_reducible show (_ : Nat) ≤ sizeLine ∧ _); refine ⟨by rw [sizeLine_eq]; exact Nat.le_of_ble_eq_true rfl, ?_⟩))
local macro_rules | `(tactic| infer_instance) => `(tactic| ((repeat symm); try dsimp only))
local macro_rules | `(tactic| ac_rfl) => `(tactic| ((repeat (first | symm | ((with_reducible show rdMod (.int _) (.int _) _ _); refine mod_any (by first | decide | assumption | omega) ?_; intro _ _ _))); try dsimp only))
theorem keepF_L {size p : Int} {r : Rule} {hs : List Host} (hc : CrewOk size hs) (hr : RuleOk r) : keepF size r hs p = keepL r hs (walkF size hs p) := (keep_same hr (walk_nd hc (walkF_ok hc p))).symm
theorem keepF_in {size p : Int} {r : Rule} {hs : List Host} (hc : CrewOk size hs) (hr : RuleOk r) : ∀ x ∈ keepF size r hs p, x ∈ hs.map (·.name) := fun x hx => by
  rw [keepF_L hc hr] at hx
  exact walkF_in hc x ((keep_in hr).2 x hx)
theorem keepF_len {size p : Int} {r : Rule} {hs : List Host} (hr : RuleOk r) : (keepF size r hs p).length ≤ 5 := by
  unfold keepF keepersOf
  rw [List.length_take]
  have := hr.w
  omega
end R
set_option maxRecDepth 100000
set_option maxHeartbeats 1000000
namespace R
open PySem PySem.Spec PyProof.Rows L2 DL
local macro_rules | `(tactic| bv_omega) => `(tactic| first | assumption | exact mset_same)
local macro_rules | `(tactic| symm) => `(tactic| first
  | ((with_reducible show ∃ _, _ = _ ∧ _); refine ⟨_, rfl, ?_⟩)
  | ((with_reducible show _ = _ ∧ _); refine ⟨rfl, ?_⟩)
  | ((with_reducible show ∃ _ _, _ = _ ∧ _ = _ ∧ _); refine ⟨_, _, rfl, rfl, ?_⟩)
  | ((with_reducible show ∃ _ _, _ = _ ∧ _); refine ⟨_, _, rfl, ?_⟩)
  | ((with_reducible show ∃ _ _ _, _ = _ ∧ _); refine ⟨_, _, _, rfl, ?_⟩)
  | ((with_reducible show (_ ≤ _ ∧ _) ∧ _); refine ⟨by omega, ?_⟩)
  | with_reducible refine add_int ?_ | with_reducible refine sub_int ?_
  | with_reducible refine lt_int ?_ | with_reducible refine le_int ?_ | with_reducible refine gt_int ?_ | with_reducible refine ge_int ?_
  | with_reducible refine int_int ?_
  | with_reducible refine eq_int ?_ | with_reducible refine ne_int ?_
  | with_reducible refine len_tup ?_ | with_reducible refine len_lst ?_
  | ((with_reducible show rdIx (.cel _) (.int _) _ _); refine ix_cel (by bv_omega) (by rfl) ?_)
  | ((with_reducible show rdIx (.lst _) (.int _) _ _); refine ix_lst (by rfl) ?_)
  | ((with_reducible show rdIx (.tup _) (.int _) _ _); refine ix_tup (by rfl) ?_)
  | ((with_reducible show rdLen [.cel _] _ _); refine len_cel (by bv_omega) ?_)
  | ((with_reducible show rdMul (.int _) (.int _) _ _); first | refine mul_l (by decide) (by decide) ?_ | refine mul_r (by decide) (by decide) ?_ | refine mul_l (by omega) (by omega) ?_ | refine mul_r (by omega) (by omega) ?_)
  | ((with_reducible show rdDiv (.int _) (.int _) _ _); refine div_int (by first | decide | assumption | omega) (by first | decide | assumption | omega) ?_)
  | ((with_reducible show rdDivmod [.int _, .int _] _ _); refine dm_int (by first | decide | assumption | omega) (by first | decide | assumption | omega) ?_)
  | ((with_reducible show @ite _ (_ = true) _ _ _); first | refine ifYes (by first | with_reducible rfl | exact Bool.not_false | assumption) ?_ | refine ifNo (by first | with_reducible rfl | exact Bool.not_true | assumption) ?_)
  | ((with_reducible show ∃ _, _ ∧ _); refine ⟨_, celL_of (by bv_omega), ?_⟩)
  | ((with_reducible show ∃ _ _ _ _, _ ∧ _ ∧ _ ∧ _ ∧ _); refine ⟨_, _, _, _, rfl, rfl, by bv_omega, by rfl, ?_⟩)
  | ((with_reducible show (_ : Nat) ≤ sizeLine ∧ _); refine ⟨by rw [sizeLine_eq]; exact Nat.le_of_ble_eq_true rfl, ?_⟩))
local macro_rules | `(tactic| infer_instance) => `(tactic| ((repeat symm); try dsimp only))
local macro_rules | `(tactic| ac_rfl) => `(tactic| ((repeat (first | symm | ((with_reducible show rdMod (.int _) (.int _) _ _); refine mod_any (by first | decide | assumption | omega) ?_; intro _ _ _))); try dsimp only))
theorem split_perm {hs : List Host} : ∀ (ns seen fs os : List Str), ((splitR hs seen fs os ns).1 ++ (splitR hs seen fs os ns).2).Perm (fs ++ os ++ ns)
  | [], seen, fs, os => by
    rw [List.append_nil]
    exact .refl _
  | x :: r, seen, fs, os => by
    unfold splitR
    split
    · refine (split_perm r _ _ _).trans ?_
      rw [List.append_assoc, List.append_assoc, List.append_assoc, List.singleton_append]
    · refine (split_perm r _ _ _).trans ?_
      rw [List.append_assoc, List.append_assoc, List.append_assoc, List.singleton_append]
      refine List.Perm.append_left fs ?_
      exact List.perm_middle.symm
end R
set_option maxRecDepth 100000
set_option maxHeartbeats 1000000
namespace R
open PySem PySem.Spec PyProof.Rows L2 DL
local macro_rules | `(tactic| bv_omega) => `(tactic| first | assumption | exact mset_same)
local macro_rules | `(tactic| symm) => `(tactic| first
  | ((with_reducible show ∃ _, _ = _ ∧ _); refine ⟨_, rfl, ?_⟩)
  | ((with_reducible show _ = _ ∧ _); refine ⟨rfl, ?_⟩)
  | ((with_reducible show ∃ _ _, _ = _ ∧ _ = _ ∧ _); refine ⟨_, _, rfl, rfl, ?_⟩)
  | ((with_reducible show ∃ _ _, _ = _ ∧ _); refine ⟨_, _, rfl, ?_⟩)
  | ((with_reducible show ∃ _ _ _, _ = _ ∧ _); refine ⟨_, _, _, rfl, ?_⟩)
  | ((with_reducible show (_ ≤ _ ∧ _) ∧ _); refine ⟨by omega, ?_⟩)
  | with_reducible refine add_int ?_ | with_reducible refine sub_int ?_
  | with_reducible refine lt_int ?_ | with_reducible refine le_int ?_ | with_reducible refine gt_int ?_ | with_reducible refine ge_int ?_
  | with_reducible refine int_int ?_
  | with_reducible refine eq_int ?_ | with_reducible refine ne_int ?_
  | with_reducible refine len_tup ?_ | with_reducible refine len_lst ?_
  | ((with_reducible show rdIx (.cel _) (.int _) _ _); refine ix_cel (by bv_omega) (by rfl) ?_)
  | ((with_reducible show rdIx (.lst _) (.int _) _ _); refine ix_lst (by rfl) ?_)
  | ((with_reducible show rdIx (.tup _) (.int _) _ _); refine ix_tup (by rfl) ?_)
  | ((with_reducible show rdLen [.cel _] _ _); refine len_cel (by bv_omega) ?_)
  | ((with_reducible show rdMul (.int _) (.int _) _ _); first | refine mul_l (by decide) (by decide) ?_ | refine mul_r (by decide) (by decide) ?_ | refine mul_l (by omega) (by omega) ?_ | refine mul_r (by omega) (by omega) ?_)
  | ((with_reducible show rdDiv (.int _) (.int _) _ _); refine div_int (by first | decide | assumption | omega) (by first | decide | assumption | omega) ?_)
  | ((with_reducible show rdDivmod [.int _, .int _] _ _); refine dm_int (by first | decide | assumption | omega) (by first | decide | assumption | omega) ?_)
  | ((with_reducible show @ite _ (_ = true) _ _ _); first | refine ifYes (by first | with_reducible rfl | exact Bool.not_false | assumption) ?_ | refine ifNo (by first | with_reducible rfl | exact Bool.not_true | assumption) ?_)
  | ((with_reducible show ∃ _, _ ∧ _); refine ⟨_, celL_of (by bv_omega), ?_⟩)
  | ((with_reducible show ∃ _ _ _ _, _ ∧ _ ∧ _ ∧ _ ∧ _); refine ⟨_, _, _, _, rfl, rfl, by bv_omega, by rfl, ?_⟩)
  | ((with_reducible show (_ : Nat) ≤ sizeLine ∧ _); refine ⟨by rw [sizeLine_eq]; exact Nat.le_of_ble_eq_true rfl, ?_⟩))
local macro_rules | `(tactic| infer_instance) => `(tactic| ((repeat symm); try dsimp only))
local macro_rules | `(tactic| ac_rfl) => `(tactic| ((repeat (first | symm | ((with_reducible show rdMod (.int _) (.int _) _ _); refine mod_any (by first | decide | assumption | omega) ?_; intro _ _ _))); try dsimp only))
theorem nodup_asc {ns : List Int} (h : ns.Pairwise (· ≤ ·)) (hn : ns.Nodup) : ns.Pairwise (· < ·) := by
  refine (List.pairwise_and_iff.mpr ⟨h, hn⟩).imp fun {a b} hab => ?_
  have h1 := hab.1
  have h2 : a ≠ b := hab.2
  omega
end R
set_option maxRecDepth 100000
set_option maxHeartbeats 1000000
namespace R
open PySem PySem.Spec PyProof.Rows L2 DL
local macro_rules | `(tactic| bv_omega) => `(tactic| first | assumption | exact mset_same)
local macro_rules | `(tactic| symm) => `(tactic| first
  | ((with_reducible show ∃ _, _ = _ ∧ _); refine ⟨_, rfl, ?_⟩)
  | ((with_reducible show _ = _ ∧ _); refine ⟨rfl, ?_⟩)
  | ((with_reducible show ∃ _ _, _ = _ ∧ _ = _ ∧ _); refine ⟨_, _, rfl, rfl, ?_⟩)
  | ((with_reducible show ∃ _ _, _ = _ ∧ _); refine ⟨_, _, rfl, ?_⟩)
  | ((with_reducible show ∃ _ _ _, _ = _ ∧ _); refine ⟨_, _, _, rfl, ?_⟩)
  | ((with_reducible show (_ ≤ _ ∧ _) ∧ _); refine ⟨by omega, ?_⟩)
  | with_reducible refine add_int ?_ | with_reducible refine sub_int ?_
  | with_reducible refine lt_int ?_ | with_reducible refine le_int ?_ | with_reducible refine gt_int ?_ | with_reducible refine ge_int ?_
  | with_reducible refine int_int ?_
  | with_reducible refine eq_int ?_ | with_reducible refine ne_int ?_
  | with_reducible refine len_tup ?_ | with_reducible refine len_lst ?_
  | ((with_reducible show rdIx (.cel _) (.int _) _ _); refine ix_cel (by bv_omega) (by rfl) ?_)
  | ((with_reducible show rdIx (.lst _) (.int _) _ _); refine ix_lst (by rfl) ?_)
  | ((with_reducible show rdIx (.tup _) (.int _) _ _); refine ix_tup (by rfl) ?_)
  | ((with_reducible show rdLen [.cel _] _ _); refine len_cel (by bv_omega) ?_)
  | ((with_reducible show rdMul (.int _) (.int _) _ _); first | refine mul_l (by decide) (by decide) ?_ | refine mul_r (by decide) (by decide) ?_ | refine mul_l (by omega) (by omega) ?_ | refine mul_r (by omega) (by omega) ?_)
  | ((with_reducible show rdDiv (.int _) (.int _) _ _); refine div_int (by first | decide | assumption | omega) (by first | decide | assumption | omega) ?_)
  | ((with_reducible show rdDivmod [.int _, .int _] _ _); refine dm_int (by first | decide | assumption | omega) (by first | decide | assumption | omega) ?_)
  | ((with_reducible show @ite _ (_ = true) _ _ _); first | refine ifYes (by first | with_reducible rfl | exact Bool.not_false | assumption) ?_ | refine ifNo (by first | with_reducible rfl | exact Bool.not_true | assumption) ?_)
  | ((with_reducible show ∃ _, _ ∧ _); refine ⟨_, celL_of (by bv_omega), ?_⟩)
  | ((with_reducible show ∃ _ _ _ _, _ ∧ _ ∧ _ ∧ _ ∧ _); refine ⟨_, _, _, _, rfl, rfl, by bv_omega, by rfl, ?_⟩)
  | ((with_reducible show (_ : Nat) ≤ sizeLine ∧ _); refine ⟨by rw [sizeLine_eq]; exact Nat.le_of_ble_eq_true rfl, ?_⟩))
local macro_rules | `(tactic| infer_instance) => `(tactic| ((repeat symm); try dsimp only))
local macro_rules | `(tactic| ac_rfl) => `(tactic| ((repeat (first | symm | ((with_reducible show rdMod (.int _) (.int _) _ _); refine mod_any (by first | decide | assumption | omega) ?_; intro _ _ _))); try dsimp only))
end R
set_option maxRecDepth 100000
namespace R
open PySem PySem.Spec PyProof.Rows L2 DL
end R
set_option maxRecDepth 100000
set_option maxHeartbeats 1000000
namespace R
open PySem PySem.Spec PyProof.Rows L2 DL
local macro_rules | `(tactic| bv_omega) => `(tactic| first | assumption | exact mset_same)
local macro_rules | `(tactic| symm) => `(tactic| first
  | ((with_reducible show ∃ _, _ = _ ∧ _); refine ⟨_, rfl, ?_⟩)
  | ((with_reducible show _ = _ ∧ _); refine ⟨rfl, ?_⟩)
  | ((with_reducible show ∃ _ _, _ = _ ∧ _ = _ ∧ _); refine ⟨_, _, rfl, rfl, ?_⟩)
  | ((with_reducible show ∃ _ _, _ = _ ∧ _); refine ⟨_, _, rfl, ?_⟩)
  | ((with_reducible show ∃ _ _ _, _ = _ ∧ _); refine ⟨_, _, _, rfl, ?_⟩)
  | ((with_reducible show (_ ≤ _ ∧ _) ∧ _); refine ⟨by omega, ?_⟩)
  | with_reducible refine add_int ?_ | with_reducible refine sub_int ?_
  | with_reducible refine lt_int ?_ | with_reducible refine le_int ?_ | with_reducible refine gt_int ?_ | with_reducible refine ge_int ?_
  | with_reducible refine int_int ?_
  | with_reducible refine eq_int ?_ | with_reducible refine ne_int ?_
  | with_reducible refine len_tup ?_ | with_reducible refine len_lst ?_
  | ((with_reducible show rdIx (.cel _) (.int _) _ _); refine ix_cel (by bv_omega) (by rfl) ?_)
  | ((with_reducible show rdIx (.lst _) (.int _) _ _); refine ix_lst (by rfl) ?_)
  | ((with_reducible show rdIx (.tup _) (.int _) _ _); refine ix_tup (by rfl) ?_)
  | ((with_reducible show rdLen [.cel _] _ _); refine len_cel (by bv_omega) ?_)
  | ((with_reducible show rdMul (.int _) (.int _) _ _); first | refine mul_l (by decide) (by decide) ?_ | refine mul_r (by decide) (by decide) ?_ | refine mul_l (by omega) (by omega) ?_ | refine mul_r (by omega) (by omega) ?_)
  | ((with_reducible show rdDiv (.int _) (.int _) _ _); refine div_int (by first | decide | assumption | omega) (by first | decide | assumption | omega) ?_)
  | ((with_reducible show rdDivmod [.int _, .int _] _ _); refine dm_int (by first | decide | assumption | omega) (by first | decide | assumption | omega) ?_)
  | ((with_reducible show @ite _ (_ = true) _ _ _); first | refine ifYes (by first | with_reducible rfl | exact Bool.not_false | assumption) ?_ | refine ifNo (by first | with_reducible rfl | exact Bool.not_true | assumption) ?_)
  | ((with_reducible show ∃ _, _ ∧ _); refine ⟨_, celL_of (by bv_omega), ?_⟩)
  | ((with_reducible show ∃ _ _ _ _, _ ∧ _ ∧ _ ∧ _ ∧ _); refine ⟨_, _, _, _, rfl, rfl, by bv_omega, by rfl, ?_⟩)
  | ((with_reducible show (_ : Nat) ≤ sizeLine ∧ _); refine ⟨by rw [sizeLine_eq]; exact Nat.le_of_ble_eq_true rfl, ?_⟩))
local macro_rules | `(tactic| infer_instance) => `(tactic| ((repeat symm); try dsimp only))
local macro_rules | `(tactic| ac_rfl) => `(tactic| ((repeat (first | symm | ((with_reducible show rdMod (.int _) (.int _) _ _); refine mod_any (by first | decide | assumption | omega) ?_; intro _ _ _))); try dsimp only))
/-- small data that may be shown -/
structure Sh (n : Nat) (k : Nat) (p : PyData) : Prop where
  s : p.showable = true
  d : p.hasDict = false
  dp : p.depth ≤ k
  len : p.shown.length ≤ n
theorem Sh.ok {n k : Nat} {p : PyData} (h : Sh n k p) (hn : n ≤ 16777216) (hk : k ≤ 100) : showOk p := ⟨h.s, h.d, by have := h.dp; omega, by have := h.len; rw [sizeLine_eq]; omega⟩
theorem Sh.int {i : Int} (h0 : 0 ≤ i) (h1 : i < 10 ^ 19) : Sh 20 0 (.int i) := ⟨by simp [PyData.showable, log_ok h0 h1], by simp [PyData.hasDict], by simp [PyData.depth], by have := num_len h0 h1; rw [PyData.shown_int]; show (numS i).length ≤ 20; omega⟩
theorem Sh.str {x : Str} (h : nameB x = true) : Sh 82 0 (.str x) := ⟨by simp [PyData.showable], by simp [PyData.hasDict], by simp [PyData.depth], by rw [PyData.shown_str]; exact name_repr h⟩
theorem showAll {n k : Nat} : ∀ {l : List PyData}, (∀ p ∈ l, Sh n k p) → PyData.showableAll l = true ∧ PyData.hasDictAll l = false ∧ PyData.depthAll l ≤ k ∧ ∀ x ∈ PyData.shownAll l, x.length ≤ n
  | [], _ => ⟨by simp [PyData.showableAll], by simp [PyData.hasDictAll], by simp [PyData.depthAll], fun x hx => by simp [PyData.shownAll] at hx⟩
  | p :: l, h => by
    obtain ⟨h1, h2, h3, h4⟩ := showAll fun q hq => h q (List.mem_cons_of_mem _ hq)
    have hp := h p (by simp)
    refine ⟨by simp [PyData.showableAll, h1, hp.s], by simp [PyData.hasDictAll, h2, hp.d], ?_, fun x hx => ?_⟩
    · have := hp.dp
      simp only [PyData.depthAll]
      omega
    · rw [PyData.shownAll] at hx
      rcases List.mem_cons.mp hx with rfl | hx
      · exact hp.len
      · exact h4 x hx
theorem Sh.tuple {n k m : Nat} {l : List PyData} (h : ∀ p ∈ l, Sh n k p) (hm : l.length ≤ m) : Sh (3 + (n + 2) * m) (k + 1) (.tuple l) := by
  obtain ⟨h1, h2, h3, h4⟩ := showAll h
  refine ⟨by simp [PyData.showable, h1], by simp [PyData.hasDict, h2], by simp only [PyData.depth]; omega, ?_⟩
  have e : (PyData.tuple l).shown = tupleText (PyData.shownAll l) := by simp only [PyData.shown]
  rw [e]
  have a := tup_le (PyData.shownAll l)
  have b := piledN h4
  rw [shownAll_len] at b
  have c : (n + 2) * l.length ≤ (n + 2) * m := Nat.mul_le_mul_left _ hm
  omega
theorem Sh.list {n k m : Nat} {l : List PyData} (h : ∀ p ∈ l, Sh n k p) (hm : l.length ≤ m) : Sh (3 + (n + 2) * m) (k + 1) (.list l) := by
  obtain ⟨h1, h2, h3, h4⟩ := showAll h
  refine ⟨by simp [PyData.showable, h1], by simp [PyData.hasDict, h2], by simp only [PyData.depth]; omega, ?_⟩
  have e : (PyData.list l).shown = ("[" : Str) ++ Str.join ", " (PyData.shownAll l) ++ "]" := by
    simp only [PyData.shown]
    exact listText_eq_join _
  rw [e]
  have a := lst_le (PyData.shownAll l)
  have b := piledN h4
  rw [shownAll_len] at b
  have c : (n + 2) * l.length ≤ (n + 2) * m := Nat.mul_le_mul_left _ hm
  omega
theorem Sh.mono {n n' k k' : Nat} {p : PyData} (h : Sh n k p) (hn : n ≤ n') (hk : k ≤ k') : Sh n' k' p := ⟨h.s, h.d, by have := h.dp; omega, by have := h.len; omega⟩
end R
set_option maxRecDepth 100000
set_option maxHeartbeats 4000000
namespace ZL
open PySem PySem.Spec PyProof.Rows PySem.W L2
/-- where a zip of two lists stands that is drawn whole into a list -/
structure At (z TI TO i1 i2 l1 l2 : Addr) (xs ys : Array Value) (n0 : Nat) (i : Nat) (h : Heap) : Prop where
  ti : IsPair h TI (.ref i1) (.ref i2)
  a : h.IsListIter i1 l1 i
  b : h.IsListIter i2 l2 i
  l : h.IsList l1 xs
  r : h.IsList l2 ys
  zz : (IsZip h z TI TO .none ∧ ∃ p q, IsPair h TO p q) ∨ ∃ T f o, IsZipHeld h z TI TO T f ∧ h.get? T = some o ∧ n0 ≤ T
theorem ne_lo {a T n0 : Nat} (h : a < n0) (h' : n0 ≤ T) : T ≠ a := Nat.ne_of_gt (Nat.lt_of_lt_of_le h h')
section
variable {prog : Program} {w : World} {A : Around} {R : Result → Shared → Prop} {z TI TO i1 i2 l1 l2 S : Addr} {xs ys : Array Value} {n0 : Nat} {res : Value}
theorem At.keep {i : Nat} {h h' : Heap} (st : At z TI TO i1 i2 l1 l2 xs ys n0 i h) (k : ∀ c o, c ≠ S → h.get? c = some o → h'.get? c = some o) (hz : z ≠ S) (hTI : TI ≠ S) (hTO : TO ≠ S) (h1 : i1 ≠ S) (h2 : i2 ≠ S) (hl1 : l1 ≠ S) (hl2 : l2 ≠ S) (hS : S < n0) : At z TI TO i1 i2 l1 l2 xs ys n0 i h' where
  ti := k _ _ hTI st.ti
  a := st.a.at fun o e => k _ o h1 e
  b := st.b.at fun o e => k _ o h2 e
  l := st.l.at fun o e => k _ o hl1 e
  r := st.r.at fun o e => k _ o hl2 e
  zz := by
    rcases st.zz with ⟨e, p, q, e2⟩ | ⟨T, f, o, e, e2, hT⟩
    · exact .inl ⟨k _ _ hz e, p, q, k _ _ hTO e2⟩
    · exact .inr ⟨T, f, o, k _ _ hz e, k _ _ (ne_lo hS hT) e2, hT⟩
end
end ZL
set_option maxRecDepth 100000
set_option maxHeartbeats 4000000
namespace ZL
open PySem PySem.Spec PyProof.Rows L2
/-- pairs told of at their places -/
def putP : Hp → List Addr → List (V × V) → Hp
  | H, a :: as, p :: ps => putP (upd H a (.tup [p.1, p.2])) as ps
  | H, [], _ => H
  | H, _ :: _, [] => H
theorem putP_off {b : Addr} : ∀ (as : List Addr) (ps : List (V × V)) (H : Hp), b ∉ as → putP H as ps b = H b
  | [], _, _, _ => rfl
  | _ :: _, [], _, _ => rfl
  | a :: as, p :: ps, H, h => by
    rw [List.mem_cons, not_or] at h
    show putP (upd H a (.tup [p.1, p.2])) as ps b = H b
    rw [putP_off as ps _ h.2, upd_ne h.1]
theorem putP_at : ∀ (as : List Addr) (ps : List (V × V)) (H : Hp), as.Nodup → ∀ (j : Nat) (a : Addr) (p : V × V), as[j]? = some a → ps[j]? = some p → putP H as ps a = some (.tup [p.1, p.2])
  | [], _, _, _, j, a, p, h, _ => by simp at h
  | _ :: _, [], _, _, j, a, p, _, h => by simp at h
  | b :: as, q :: ps, H, hn, j, a, p, h1, h2 => by
    rw [List.nodup_cons] at hn
    show putP (upd H b (.tup [q.1, q.2])) as ps a = _
    cases j with
    | zero =>
      simp at h1 h2
      subst h1 h2
      rw [putP_off as ps _ hn.1, upd_same]
    | succ j => exact putP_at as ps _ hn.2 j a p (by simpa using h1) (by simpa using h2)
theorem refs_vals : ∀ as : List Addr, Vals (as.map V.ref) (as.map Value.ref)
  | [] => .nil
  | _ :: as => .cons rfl (refs_vals as)
/-- what stands there then, over the abstract heap -/
structure Pairs (H H' : Hp) (S : Addr) (as : List Addr) (ps : List (V × V)) : Prop where
  old : ∀ b o, H b = some o → H' b = some o
  eq : H' = putP (upd H S (.lst (as.map V.ref))) as ps
  len : as.length = ps.length
  nd : as.Nodup
  newS : H S = none
  new : ∀ a ∈ as, H a = none
  off : S ∉ as
section
variable {X : Cx} {pins : List (Addr × Obj)} {σ : L2.St} {H : Hp} {s : Shared}
theorem laid {h' : Heap} {tk : Nat} {as : List Addr} {ps : List (V × V)} {c : Nat} {S : Addr} (I : Inv X pins σ H s) (hz : ps.length ≤ sizeLine) (hS0 : s.heap.objs.size ≤ S) (ha : ∀ a ∈ as, s.heap.objs.size ≤ a) (hn : as.Nodup) (hSn : S ∉ as) (hl : as.length = ps.length) (hk : ∀ b o, s.heap.get? b = some o → h'.get? b = some o)
    (hS : h'.get? S = some { cls := .type "list", dict := none, data := .seq (as.map Value.ref).toArray c, slots := #[] }) (hp : ∀ (j : Nat) (a : Addr) (p : V × V), as[j]? = some a → ps[j]? = some p → ∃ x y, RelV p.1 x ∧ RelV p.2 y ∧ h'.get? a = some { cls := .type "tuple", data := .seq #[x, y] }) :
    ∃ H', Pairs H H' S as ps ∧ Inv X pins σ H' { s with heap := h', toks := tk } := by
  have newS : H S = none := I.hok.fresh hS0
  have new : ∀ a ∈ as, H a = none := fun a hm => I.hok.fresh (ha a hm)
  have off : ∀ b, b ∉ as → b ≠ S → putP (upd H S (.lst (as.map V.ref))) as ps b = H b := fun b h1 h2 => by rw [putP_off as ps _ h1, upd_ne h2]
  have eS : putP (upd H S (.lst (as.map V.ref))) as ps S = some (.lst (as.map V.ref)) := by rw [putP_off as ps _ hSn, upd_same]
  have kp : ∀ b u, H b = some u → putP (upd H S (.lst (as.map V.ref))) as ps b = some u := fun b u e => by
    rw [off b (fun z => by rw [new b z] at e; cases e) (fun z => by rw [z, newS] at e; cases e)]; exact e
  refine ⟨_, ⟨kp, rfl, hl, hn, newS, new, hSn⟩, ?_⟩
  refine I.call' (ch := []) rfl ⟨fun b o q _ _ _ => hk b o q, fun b o q _ _ _ => ⟨o.slots, hk b o q⟩, fun b o q n _ => ?_, fun b o q _ => ⟨o, hk b o q⟩, fun b xs q => kp b _ q, fun b o u q => kp b _ q, fun b ps q => ⟨#[], by rw [kp b _ q]; simp⟩⟩ (fun b u q => ?_) I.bare fun b z => by simp at z
  · have hlt := Heap.lt_size q
    rw [off b (fun z => absurd hlt (Nat.not_lt.mpr (ha b z))) (fun z => by subst z; exact absurd hlt (Nat.not_lt.mpr hS0))]
    exact n
  · by_cases hb : b ∈ as
    · obtain ⟨j, hj⟩ := List.getElem?_of_mem hb
      have hj2 := (List.getElem?_eq_some_iff.mp hj).1
      have hpj := List.getElem?_eq_getElem (l := ps) (i := j) (by omega)
      have e := putP_at as ps (upd H S (.lst (as.map V.ref))) hn j b _ hj hpj
      have e2 : some u = some (.tup [(ps[j]'(by omega)).1, (ps[j]'(by omega)).2]) := by rw [← q]; exact e
      cases e2
      obtain ⟨x, y, rx, ry, f⟩ := hp j b _ hj hpj
      exact ⟨by show 2 ≤ sizeLine; decide, [x, y], .cons rx (.cons ry .nil), ⟨_, f, rfl, _, rfl⟩⟩
    · by_cases hb2 : b = S
      · rw [hb2] at q ⊢
        have e2 : some u = some (.lst (as.map V.ref)) := by rw [← q]; exact eS
        cases e2
        exact ⟨by rw [List.length_map]; omega, as.map Value.ref, c, refs_vals as, hS⟩
      · have e2 : H b = some u := by rw [← off b hb hb2]; exact q
        exact (I.hok b u e2).stay (fun d v _ y => hk d v y) (fun d y => kp d _ y) fun d xs y => kp d _ y
end
end ZL
namespace DL
open PySem PySem.Spec PyProof.Rows L2 ZL
end DL
set_option maxRecDepth 100000
set_option maxHeartbeats 4000000
namespace DL
open PySem PySem.Spec PyProof.Rows L2
end DL
set_option maxRecDepth 100000
set_option maxHeartbeats 4000000
namespace DL
open PySem PySem.Spec PyProof.Rows L2
end DL
set_option maxRecDepth 100000
set_option maxHeartbeats 4000000
namespace DL
open PySem PySem.Spec PyProof.Rows L2
def pyOfs (M : Mem) : List D → Option (List PyData)
  | [] => some []
  | d :: ds => match pyOf M d, pyOfs M ds with | some p, some ps => some (p :: ps) | _, _ => none
/-- one level more -/
def pyOf1 (M : Mem) : D → Option PyData
  | .lst xs => (pyOfs M xs).map .list
  | .tup xs => (pyOfs M xs).map .tuple
  | d => pyOf M d
section
variable {K : PySem.W.Frag} {H0 H : Hp} {M : Mem}
theorem SD.pys (S : SD K H0 H M) : ∀ {vs : List V} {ds : List D} {ps : List PyData}, DnL K H0 vs ds → pyOfs M ds = some ps → DpAll K H vs ps
  | _, _, _, .nil, e => by cases e; exact .nil
  | _, _, _, .cons (d := d) (ds := ds) h r, e => by
    have e' : (match pyOf M d, pyOfs M ds with | some p, some ps => some (p :: ps) | _, _ => none) = some _ := e
    cases e1 : pyOf M d with
    | none => rw [e1] at e'; cases e'
    | some p =>
      cases e2 : pyOfs M ds with
      | none => rw [e1, e2] at e'; cases e'
      | some ps =>
        rw [e1, e2] at e'
        cases e'
        exact .cons (S.py h e1) (S.pys r e2)
theorem SD.py1 (S : SD K H0 H M) {v : V} {d : D} {p : PyData} (h : Dn K H0 v d) (e : pyOf1 M d = some p) : Dp K H v p := by
  cases d with
  | lst xs =>
    obtain ⟨ps, e1, rfl⟩ := omap (show (pyOfs M xs).map PyData.list = _ from e)
    cases h with
    | lst h r => exact .lst (SqL.of (S.ex _ _ h)) (S.pys r e1)
  | tup xs =>
    obtain ⟨ps, e1, rfl⟩ := omap (show (pyOfs M xs).map PyData.tuple = _ from e)
    cases h with
    | tup h r => exact .tup (S.ex.sqT h) (S.pys r e1)
  | _ => exact S.py h e
end
section
variable {X : Cx}
def rdRepr1 : RDL := fun ds M q => ∃ d p, ds = [d] ∧ pyOf1 M d = some p ∧ showOk p ∧ q (.str p.shown) M
theorem cd_repr1 (hg : X.A.guards = some []) (hu : X.A.units + 200 < cLine) : CallD X (.builtin "repr") rdRepr1 := ⟨_, call_reprD hg hu, fun H0 H M xs ds q Q S r w k => by
  obtain ⟨d, p, rfl, e, ⟨z1, z2, z3, z4⟩, w⟩ := w
  obtain ⟨v, rfl, rv⟩ := dnl1 r
  exact ⟨v, p, rfl, S.py1 rv e, z1, z2, z3, z4, k.here S (.str _) w⟩⟩
end
end DL
set_option maxRecDepth 100000
set_option maxHeartbeats 4000000
namespace SK
open PySem PySem.Spec PyProof.Rows L2
section
variable {P : Program} {w : World} {K : Type} [DecidableEq K] (knd : KeyKind P w K) (key : Value → K)
abbrev keysOf (l : List (Int × Value)) : List K := l.map fun e => key e.2
structure Body (h : Heap) (a : Addr) (o : Obj) (es : Array (Int × Value)) (ep : Nat) (t : SetTable) : Prop where
  at_ : h.get? a = some o
  exact_ : o.ExactSet
  data : o.data = .set es ep t
  el : ElemsOf knd es.toList
  nd : (keysOf key es.toList).Nodup
  few : es.size < scanBound
  fits : t.fits es.size = true
  ris : Ris t.place.toList
  led : w.params.followText "set-order" = true ∨ t.led = true
/-- the set at a: its members ks, each once -/
def SetK (h : Heap) (a : Addr) (ks : List K) : Prop := ∃ o es ep t, Body knd key h a o es ep t ∧ (keysOf key es.toList).Perm ks
end
section
variable {P : Program} {w : World} {K : Type} [DecidableEq K] {knd : KeyKind P w K} {key : Value → K} {h h' : Heap} {a : Addr} {ks : List K}
theorem SetK.keep (R : SetK knd key h a ks) (k : ∀ o, h.get? a = some o → h'.get? a = some o) : SetK knd key h' a ks := by
  obtain ⟨o, es, ep, t, B, p⟩ := R
  exact ⟨o, es, ep, t, { B with at_ := k o B.at_ }, p⟩
theorem SetK.len (R : SetK knd key h a ks) : ks.length < scanBound := by
  obtain ⟨o, es, ep, t, B, p⟩ := R
  rw [← p.length_eq, List.length_map, Array.length_toList]
  exact B.few
end
end SK
namespace DL
open PySem PySem.Spec PyProof.Rows L2
end DL
set_option maxRecDepth 100000
set_option maxHeartbeats 4000000
namespace DL
open PySem PySem.Spec PyProof.Rows L2
end DL
set_option maxRecDepth 100000
set_option maxHeartbeats 4000000
namespace DL
open PySem PySem.Spec PyProof.Rows L2
section
variable {X : Cx} {W : WX}
theorem DnL.split {K : PySem.W.Frag} {H : Hp} : ∀ {ds : List D} {d : D} {vs : List V}, DnL K H vs (ds ++ [d]) → ∃ us u, vs = us ++ [u] ∧ DnL K H us ds ∧ Dn K H u d
  | [], d, _, .cons h .nil => ⟨[], _, rfl, .nil, h⟩
  | x :: ds, d, _, .cons h r => by
    obtain ⟨us, u, rfl, a, b⟩ := DnL.split r
    exact ⟨_ :: us, u, rfl, .cons h a, b⟩
end
end DL
set_option maxRecDepth 100000
set_option maxHeartbeats 1000000
namespace R
open PySem PySem.Spec PyProof.Rows L2 DL
local macro_rules | `(tactic| bv_omega) => `(tactic| first | assumption | exact mset_same)
local macro_rules | `(tactic| symm) => `(tactic| first
  | ((with_reducible show ∃ _, _ = _ ∧ _); refine ⟨_, rfl, ?_⟩)
  | ((with_reducible show _ = _ ∧ _); refine ⟨rfl, ?_⟩)
  | ((with_reducible show ∃ _ _, _ = _ ∧ _ = _ ∧ _); refine ⟨_, _, rfl, rfl, ?_⟩)
  | ((with_reducible show ∃ _ _, _ = _ ∧ _); refine ⟨_, _, rfl, ?_⟩)
  | ((with_reducible show ∃ _ _ _, _ = _ ∧ _); refine ⟨_, _, _, rfl, ?_⟩)
  | ((with_reducible show (_ ≤ _ ∧ _) ∧ _); refine ⟨by omega, ?_⟩)
  | with_reducible refine add_int ?_ | with_reducible refine sub_int ?_
  | with_reducible refine lt_int ?_ | with_reducible refine le_int ?_ | with_reducible refine gt_int ?_ | with_reducible refine ge_int ?_
  | with_reducible refine int_int ?_
  | with_reducible refine eq_int ?_ | with_reducible refine ne_int ?_
  | with_reducible refine len_tup ?_ | with_reducible refine len_lst ?_
  | ((with_reducible show rdIx (.cel _) (.int _) _ _); refine ix_cel (by bv_omega) (by rfl) ?_)
  | ((with_reducible show rdIx (.lst _) (.int _) _ _); refine ix_lst (by rfl) ?_)
  | ((with_reducible show rdIx (.tup _) (.int _) _ _); refine ix_tup (by rfl) ?_)
  | ((with_reducible show rdLen [.cel _] _ _); refine len_cel (by bv_omega) ?_)
  | ((with_reducible show rdMul (.int _) (.int _) _ _); first | refine mul_l (by decide) (by decide) ?_ | refine mul_r (by decide) (by decide) ?_ | refine mul_l (by omega) (by omega) ?_ | refine mul_r (by omega) (by omega) ?_)
  | ((with_reducible show rdDiv (.int _) (.int _) _ _); refine div_int (by first | decide | assumption | omega) (by first | decide | assumption | omega) ?_)
  | ((with_reducible show rdDivmod [.int _, .int _] _ _); refine dm_int (by first | decide | assumption | omega) (by first | decide | assumption | omega) ?_)
  | ((with_reducible show @ite _ (_ = true) _ _ _); first | refine ifYes (by first | with_reducible rfl | exact Bool.not_false | assumption) ?_ | refine ifNo (by first | with_reducible rfl | exact Bool.not_true | assumption) ?_)
  | ((with_reducible show ∃ _, _ ∧ _); refine ⟨_, celL_of (by bv_omega), ?_⟩)
  | ((with_reducible show ∃ _ _ _ _, _ ∧ _ ∧ _ ∧ _ ∧ _); refine ⟨_, _, _, _, rfl, rfl, by bv_omega, by rfl, ?_⟩)
  | ((with_reducible show (_ : Nat) ≤ sizeLine ∧ _); refine ⟨by rw [sizeLine_eq]; exact Nat.le_of_ble_eq_true rfl, ?_⟩))
local macro_rules | `(tactic| infer_instance) => `(tactic| ((repeat symm); try dsimp only))
local macro_rules | `(tactic| ac_rfl) => `(tactic| ((repeat (first | symm | ((with_reducible show rdMod (.int _) (.int _) _ _); refine mod_any (by first | decide | assumption | omega) ?_; intro _ _ _))); try dsimp only))
end R
set_option maxRecDepth 100000
namespace R
open PySem PySem.Spec PyProof.Rows L2 DL
end R
set_option maxRecDepth 100000
set_option maxHeartbeats 1000000
namespace R
open PySem PySem.Spec PyProof.Rows L2 DL
local macro_rules | `(tactic| bv_omega) => `(tactic| first | assumption | exact mset_same)
local macro_rules | `(tactic| symm) => `(tactic| first
  | ((with_reducible show ∃ _, _ = _ ∧ _); refine ⟨_, rfl, ?_⟩)
  | ((with_reducible show _ = _ ∧ _); refine ⟨rfl, ?_⟩)
  | ((with_reducible show ∃ _ _, _ = _ ∧ _ = _ ∧ _); refine ⟨_, _, rfl, rfl, ?_⟩)
  | ((with_reducible show ∃ _ _, _ = _ ∧ _); refine ⟨_, _, rfl, ?_⟩)
  | ((with_reducible show ∃ _ _ _, _ = _ ∧ _); refine ⟨_, _, _, rfl, ?_⟩)
  | ((with_reducible show (_ ≤ _ ∧ _) ∧ _); refine ⟨by omega, ?_⟩)
  | with_reducible refine add_int ?_ | with_reducible refine sub_int ?_
  | with_reducible refine lt_int ?_ | with_reducible refine le_int ?_ | with_reducible refine gt_int ?_ | with_reducible refine ge_int ?_
  | with_reducible refine int_int ?_
  | with_reducible refine eq_int ?_ | with_reducible refine ne_int ?_
  | with_reducible refine len_tup ?_ | with_reducible refine len_lst ?_
  | ((with_reducible show rdIx (.cel _) (.int _) _ _); refine ix_cel (by bv_omega) (by rfl) ?_)
  | ((with_reducible show rdIx (.lst _) (.int _) _ _); refine ix_lst (by rfl) ?_)
  | ((with_reducible show rdIx (.tup _) (.int _) _ _); refine ix_tup (by rfl) ?_)
  | ((with_reducible show rdLen [.cel _] _ _); refine len_cel (by bv_omega) ?_)
  | ((with_reducible show rdMul (.int _) (.int _) _ _); first | refine mul_l (by decide) (by decide) ?_ | refine mul_r (by decide) (by decide) ?_ | refine mul_l (by omega) (by omega) ?_ | refine mul_r (by omega) (by omega) ?_)
  | ((with_reducible show rdDiv (.int _) (.int _) _ _); refine div_int (by first | decide | assumption | omega) (by first | decide | assumption | omega) ?_)
  | ((with_reducible show rdDivmod [.int _, .int _] _ _); refine dm_int (by first | decide | assumption | omega) (by first | decide | assumption | omega) ?_)
  | ((with_reducible show @ite _ (_ = true) _ _ _); first | refine ifYes (by first | with_reducible rfl | exact Bool.not_false | assumption) ?_ | refine ifNo (by first | with_reducible rfl | exact Bool.not_true | assumption) ?_)
  | ((with_reducible show ∃ _, _ ∧ _); refine ⟨_, celL_of (by bv_omega), ?_⟩)
  | ((with_reducible show ∃ _ _ _ _, _ ∧ _ ∧ _ ∧ _ ∧ _); refine ⟨_, _, _, _, rfl, rfl, by bv_omega, by rfl, ?_⟩)
  | ((with_reducible show (_ : Nat) ≤ sizeLine ∧ _); refine ⟨by rw [sizeLine_eq]; exact Nat.le_of_ble_eq_true rfl, ?_⟩))
local macro_rules | `(tactic| infer_instance) => `(tactic| ((repeat symm); try dsimp only))
local macro_rules | `(tactic| ac_rfl) => `(tactic| ((repeat (first | symm | ((with_reducible show rdMod (.int _) (.int _) _ _); refine mod_any (by first | decide | assumption | omega) ?_; intro _ _ _))); try dsimp only))
end R
set_option maxRecDepth 100000
set_option maxHeartbeats 1000000
namespace R
open PySem PySem.Spec PyProof.Rows L2 DL
local macro_rules | `(tactic| bv_omega) => `(tactic| first | assumption | exact mset_same)
local macro_rules | `(tactic| symm) => `(tactic| first
  | ((with_reducible show ∃ _, _ = _ ∧ _); refine ⟨_, rfl, ?_⟩)
  | ((with_reducible show _ = _ ∧ _); refine ⟨rfl, ?_⟩)
  | ((with_reducible show ∃ _ _, _ = _ ∧ _ = _ ∧ _); refine ⟨_, _, rfl, rfl, ?_⟩)
  | ((with_reducible show ∃ _ _, _ = _ ∧ _); refine ⟨_, _, rfl, ?_⟩)
  | ((with_reducible show ∃ _ _ _, _ = _ ∧ _); refine ⟨_, _, _, rfl, ?_⟩)
  | ((with_reducible show (_ ≤ _ ∧ _) ∧ _); refine ⟨by omega, ?_⟩)
  | with_reducible refine add_int ?_ | with_reducible refine sub_int ?_
  | with_reducible refine lt_int ?_ | with_reducible refine le_int ?_ | with_reducible refine gt_int ?_ | with_reducible refine ge_int ?_
  | with_reducible refine int_int ?_
  | with_reducible refine eq_int ?_ | with_reducible refine ne_int ?_
  | with_reducible refine len_tup ?_ | with_reducible refine len_lst ?_
  | ((with_reducible show rdIx (.cel _) (.int _) _ _); refine ix_cel (by bv_omega) (by rfl) ?_)
  | ((with_reducible show rdIx (.lst _) (.int _) _ _); refine ix_lst (by rfl) ?_)
  | ((with_reducible show rdIx (.tup _) (.int _) _ _); refine ix_tup (by rfl) ?_)
  | ((with_reducible show rdLen [.cel _] _ _); refine len_cel (by bv_omega) ?_)
  | ((with_reducible show rdMul (.int _) (.int _) _ _); first | refine mul_l (by decide) (by decide) ?_ | refine mul_r (by decide) (by decide) ?_ | refine mul_l (by omega) (by omega) ?_ | refine mul_r (by omega) (by omega) ?_)
  | ((with_reducible show rdDiv (.int _) (.int _) _ _); refine div_int (by first | decide | assumption | omega) (by first | decide | assumption | omega) ?_)
  | ((with_reducible show rdDivmod [.int _, .int _] _ _); refine dm_int (by first | decide | assumption | omega) (by first | decide | assumption | omega) ?_)
  | ((with_reducible show @ite _ (_ = true) _ _ _); first | refine ifYes (by first | with_reducible rfl | exact Bool.not_false | assumption) ?_ | refine ifNo (by first | with_reducible rfl | exact Bool.not_true | assumption) ?_)
  | ((with_reducible show ∃ _, _ ∧ _); refine ⟨_, celL_of (by bv_omega), ?_⟩)
  | ((with_reducible show ∃ _ _ _ _, _ ∧ _ ∧ _ ∧ _ ∧ _); refine ⟨_, _, _, _, rfl, rfl, by bv_omega, by rfl, ?_⟩)
  | ((with_reducible show (_ : Nat) ≤ sizeLine ∧ _); refine ⟨by rw [sizeLine_eq]; exact Nat.le_of_ble_eq_true rfl, ?_⟩))
local macro_rules | `(tactic| infer_instance) => `(tactic| ((repeat symm); try dsimp only))
local macro_rules | `(tactic| ac_rfl) => `(tactic| ((repeat (first | symm | ((with_reducible show rdMod (.int _) (.int _) _ _); refine mod_any (by first | decide | assumption | omega) ?_; intro _ _ _))); try dsimp only))
def Lt (x : Str) : Prop := ∀ c ∈ x.cps.toList, c < 1114112
theorem Lt.ok {x : Str} (h : Lt x) : PyData.strOk x = true := strOk_nat (List.all_eq_true.mpr fun c hc => decide_eq_true (h c hc))
theorem Lt.app {a b : Str} (h : Lt a) (h' : Lt b) : Lt (a ++ b) := fun c hc => by
  rcases mem_cps_append.mp hc with hc | hc
  · exact h c hc
  · exact h' c hc
end R
set_option maxRecDepth 100000
set_option maxHeartbeats 1000000
namespace R
open PySem PySem.Spec PyProof.Rows L2 DL
local macro_rules | `(tactic| bv_omega) => `(tactic| first | assumption | exact mset_same)
local macro_rules | `(tactic| symm) => `(tactic| first
  | ((with_reducible show ∃ _, _ = _ ∧ _); refine ⟨_, rfl, ?_⟩)
  | ((with_reducible show _ = _ ∧ _); refine ⟨rfl, ?_⟩)
  | ((with_reducible show ∃ _ _, _ = _ ∧ _ = _ ∧ _); refine ⟨_, _, rfl, rfl, ?_⟩)
  | ((with_reducible show ∃ _ _, _ = _ ∧ _); refine ⟨_, _, rfl, ?_⟩)
  | ((with_reducible show ∃ _ _ _, _ = _ ∧ _); refine ⟨_, _, _, rfl, ?_⟩)
  | ((with_reducible show (_ ≤ _ ∧ _) ∧ _); refine ⟨by omega, ?_⟩)
  | with_reducible refine add_int ?_ | with_reducible refine sub_int ?_
  | with_reducible refine lt_int ?_ | with_reducible refine le_int ?_ | with_reducible refine gt_int ?_ | with_reducible refine ge_int ?_
  | with_reducible refine int_int ?_
  | with_reducible refine eq_int ?_ | with_reducible refine ne_int ?_
  | with_reducible refine len_tup ?_ | with_reducible refine len_lst ?_
  | ((with_reducible show rdIx (.cel _) (.int _) _ _); refine ix_cel (by bv_omega) (by rfl) ?_)
  | ((with_reducible show rdIx (.lst _) (.int _) _ _); refine ix_lst (by rfl) ?_)
  | ((with_reducible show rdIx (.tup _) (.int _) _ _); refine ix_tup (by rfl) ?_)
  | ((with_reducible show rdLen [.cel _] _ _); refine len_cel (by bv_omega) ?_)
  | ((with_reducible show rdMul (.int _) (.int _) _ _); first | refine mul_l (by decide) (by decide) ?_ | refine mul_r (by decide) (by decide) ?_ | refine mul_l (by omega) (by omega) ?_ | refine mul_r (by omega) (by omega) ?_)
  | ((with_reducible show rdDiv (.int _) (.int _) _ _); refine div_int (by first | decide | assumption | omega) (by first | decide | assumption | omega) ?_)
  | ((with_reducible show rdDivmod [.int _, .int _] _ _); refine dm_int (by first | decide | assumption | omega) (by first | decide | assumption | omega) ?_)
  | ((with_reducible show @ite _ (_ = true) _ _ _); first | refine ifYes (by first | with_reducible rfl | exact Bool.not_false | assumption) ?_ | refine ifNo (by first | with_reducible rfl | exact Bool.not_true | assumption) ?_)
  | ((with_reducible show ∃ _, _ ∧ _); refine ⟨_, celL_of (by bv_omega), ?_⟩)
  | ((with_reducible show ∃ _ _ _ _, _ ∧ _ ∧ _ ∧ _ ∧ _); refine ⟨_, _, _, _, rfl, rfl, by bv_omega, by rfl, ?_⟩)
  | ((with_reducible show (_ : Nat) ≤ sizeLine ∧ _); refine ⟨by rw [sizeLine_eq]; exact Nat.le_of_ble_eq_true rfl, ?_⟩))
local macro_rules | `(tactic| infer_instance) => `(tactic| ((repeat symm); try dsimp only))
local macro_rules | `(tactic| ac_rfl) => `(tactic| ((repeat (first | symm | ((with_reducible show rdMod (.int _) (.int _) _ _); refine mod_any (by first | decide | assumption | omega) ?_; intro _ _ _))); try dsimp only))
def sd_draw (C : Addr) : SpD := fun ds M q _ => ∃ (k : Addr) (n g : Int), ds = [.cel k, .int n] ∧ 0 < n ∧ n < 1073741824 ∧ Kg M k g ∧ g < 1099511627776 ∧ ∀ v M', 0 ≤ v → v < n → KeptB k M M' → Kg M' k (g + 1) → q (.int v) M'
def sd_pick (C : Addr) : SpD := fun ds M q _ => ∃ (k : Addr) (d : D) (xs : List D) (g : Int), ds = [.cel k, d] ∧ d ≠ .cel k ∧ seqOf M d = some xs ∧ 0 < xs.length ∧ xs.length < 1000000 ∧ Kg M k g ∧ g < 1099511627776 ∧ ∀ x M', x ∈ xs → KeptB k M M' → Kg M' k (g + 1) → q x M'
def sd_purse (C : Addr) : SpD := fun ds M q _ => ∃ (ns : List Int) (t : Nat), ds = [.lsf (ns.map D.int), .int t] ∧ t < 1000 ∧ ns.length ≤ 63 ∧ (∀ n ∈ ns, Builtin.Int.intBits n ≤ 1048576) ∧ ∀ k M', M k = none → Kept M M' → Kg M' k 0 → q (.cel k) M'
def sd_walk (C : Addr) : SpD := fun ds M q _ => ∃ (size p : Int) (r : Rule) (hs : List Host), ds = [.lst (frameL size r hs), .int p] ∧ 0 < size ∧ CrewOk size hs ∧ ∀ ns M', WalkOf size p hs ns → Kept M M' → q (strsL ns) M'
def sd_keepers (C : Addr) : SpD := fun ds M q _ => ∃ (size p : Int) (r : Rule) (hs : List Host), ds = [.lst (frameL size r hs), .int p] ∧ 0 < size ∧ CrewOk size hs ∧ RuleOk r ∧ ∀ M', Kept M M' → q (strsT (keepF size r hs p)) M'
def sd_marks (C : Addr) : SpD := fun ds M q _ => ∃ (k : Addr) (g size : Int) (ts : List Int) (many : Nat), ds = [.cel k, .int size, .lst (ts.map D.int), .int many] ∧ (ts.length : Int) < size ∧ size < 1073741824 ∧ ts.length ≤ 100 ∧ 1 ≤ many ∧ many ≤ 16 ∧ Kg M k g ∧ g + 100 < 1099511627776 ∧ ∀ (ms : List Int) M', MarksOk size ms → ms.length ≤ many → (∀ m ∈ ms, m ∉ ts) → KeptB k M M' → Kg M' k (g + 20) → q (intsT ms) M'
def abc : List Str := ["a", "b", "c", "d", "e"]
def sd_ring (C : Addr) : SpD := fun ds M q _ => ∃ (k : Addr) (g size : Int) (most : Nat), ds = [.cel k, .int size, .int most] ∧ 1 ≤ size ∧ size < 1073741824 ∧ 1 ≤ most ∧ most ≤ 16 ∧ Kg M k g ∧ g + 1000 < 1099511627776 ∧ ∀ (r : Rule) (hs : List Host) M', RuleOk r → r.wide ≤ 4 → CrewOk size hs → hs.length ≤ 5 → hs.map (·.name) = abc.take hs.length → (∀ h ∈ hs, h.marks.length ≤ most ∧ h.rack ∈ (["r1", "r2", "r3"] : List Str)) → KeptB k M M' → Kg M' k (g + 1000) → q (.lst (frameL size r hs)) M'
def sd_mint (C : Addr) : SpD := fun ds M q _ => ∃ (size : Int) (r : Rule) (hs : List Host), ds = [.lst (frameL size r hs)] ∧ 1 ≤ size ∧ size ≤ 1000000000000000000 ∧ RuleOk r ∧ CrewOk size hs ∧ ∀ M', Kept M M' → q (ringD C size r hs) M'
end R
set_option maxRecDepth 100000
namespace R
open PySem PySem.Spec PyProof.Rows L2 DL
abbrev N_purse : List Str := ["_law_script", "_law_k", "_law_cell", "_law_digits", "_law_seed"]
def db_purse (C : Addr) : DS :=
    (dSeq (dIfS (dTst (dOp rdLt (dVar 1) (dCB rdLen (dCons (dVar 0) dNil)))) (dSeq (dSet 2 (dOp rdIx (dVar 0) (dVar 1)))
    (dSeq (dSet 3 (dIf (dOr (dTst (dOp rdLt (dVar 2) (dC (.int 0)))) (dTst (dOp rdGe (dVar 2) (dOp rdPow (dC (.int 10)) (dC (.int 18)))))) (dCB rdAbs (dCons (dVar 2) dNil)) (dC (.int 0))))
    (dRet (dLstC (dCons (dVar 3) (dCons (dOp rdMod (dCB rdInt (dCons (dOp rdAdd (dOp rdAdd (dOp rdMul (dVar 2) (dC (.int 39373))) (dOp rdMul (dC (.int 104723)) (dVar 1))) (dC (.int 17))) dNil)) (dC (.int 2147483629))) (dCons (dC (.int 0)) dNil))))))) dNext)
    (dSeq (dSet 4 (dOp rdAdd (dOp rdMul (dC (.int 86243)) (dVar 1)) (dC (.int 131))))
    (dSeq (dFor (dIter (dSl rdSl (dVar 0) dNo (dPart (dC (.int 4))))) (gdName 2) (dSet 4 (dOp rdMod (dCB rdInt (dCons (dOp rdAdd (dOp rdMul (dVar 4) (dC (.int 48271))) (dVar 2)) dNil)) (dC (.int 2147483587)))))
    (dRet (dLstC (dCons (dC (.int 0)) (dCons (dVar 4) (dCons (dC (.int 0)) dNil))))))))
abbrev N_draw : List Str := ["_law_purse_here", "_law_size", "_law_seed", "_law_by", "_law_digit"]
def db_draw (C : Addr) : DS :=
    (dSeq (dPar2 2 3 (dCons (dOp rdIx (dVar 0) (dC (.int 1))) (dCons (dOp rdAdd (dOp rdMod (dCB rdInt (dCons (dOp rdIx (dVar 0) (dC (.int 1))) dNil)) (dC (.int 40009))) (dC (.int 20021))) dNil)))
    (dSeq (dAsg (dOp rdAdd (dOp rdIx (dVar 0) (dC (.int 2))) (dC (.int 1))) (gdSub (dVar 0) (dC (.int 2))))
    (dSeq (dAsg (dOp rdMod (dCB rdInt (dCons (dOp rdAdd (dOp rdAdd (dOp rdMul (dVar 2) (dVar 3)) (dOp rdMul (dC (.int 60013)) (dOp rdIx (dVar 0) (dC (.int 2))))) (dC (.int 11))) dNil)) (dC (.int 2147483629))) (gdSub (dVar 0) (dC (.int 1))))
    (dSeq (dIfS (dTst (dOp rdGt (dOp rdIx (dVar 0) (dC (.int 0))) (dC (.int 0)))) (dSeq (dAsg (dCB rdDivmod (dCons (dOp rdIx (dVar 0) (dC (.int 0))) (dCons (dVar 1) dNil))) (gdTup 2 (gdCons (gdSub (dVar 0) (dC (.int 0))) (gdCons (gdName 4) gdNil))))
    (dRet (dVar 4))) dNext)
    (dRet (dOp rdMod (dCB rdInt (dCons (dOp rdDiv (dOp rdIx (dVar 0) (dC (.int 1))) (dC (.int 89))) dNil)) (dVar 1)))))))
abbrev N_walk : List Str := ["_law_ring_here", "_law_at", "_law_met", "_law_host", "_law_rack", "_law_marks_here", "_law_mark", "_law_far"]
def db_walk (C : Addr) : DS :=
    (dSeq (dSet 2 (dLstC dNil))
    (dSeq (dFor (dIter (dOp rdIx (dVar 0) (dC (.int 6)))) (gdTup 3 (gdCons (gdName 3) (gdCons (gdName 4) (gdCons (gdName 5) gdNil)))) (dExp (dApp (dVar 2) (dCons (dTup (dCons (dCB rdMinL (dCons (dLc (dIter (dVar 5)) (gdName 6) dYes (dOp rdMod (dCB rdInt (dCons (dOp rdSub (dVar 6) (dVar 1)) dNil)) (dOp rdIx (dVar 0) (dC (.int 0)))) [6]) dNil)) (dCons (dVar 3) dNil))) dNil))))
    (dRet (dLc (dIter (dCB rdSortP (dCons (dVar 2) dNil))) (gdTup 2 (gdCons (gdName 7) (gdCons (gdName 3) gdNil))) dYes (dVar 3) [7, 3]))))
abbrev N_keepers : List Str := ["_law_ring_here", "_law_at", "_law_line", "_law_many", "_law_racks_here", "_law_seen", "_law_first", "_law_host", "_law_others"]
def db_keepers (C : Addr) : DS :=
    (dSeq (dPar2 2 3 (dCons (dCall 2 (sd_walk C) (dCons (dVar 0) (dCons (dVar 1) dNil))) (dCons (dOp rdIx (dVar 0) (dC (.int 1))) dNil)))
    (dSeq (dIfS (dTst (dOp rdEq (dOp rdIx (dVar 0) (dC (.int 2))) (dC (.str "hosts")))) (dRet (dCB rdTuple (dCons (dSl rdSl (dVar 2) dNo (dPart (dVar 3))) dNil))) dNext)
    (dSeq (dAsg (dTup (dCons (dCB rdDictC (dCons (dLc (dIter (dOp rdIx (dVar 0) (dC (.int 6)))) (gdName 7) dYes (dTup (dCons (dOp rdIx (dVar 7) (dC (.int 0))) (dCons (dOp rdIx (dVar 7) (dC (.int 1))) dNil))) [7]) dNil)) (dCons (dLstC dNil) (dCons (dLstC dNil) dNil)))) (gdTup 3 (gdCons (gdName 4) (gdCons (gdName 5) (gdCons (gdName 6) gdNil)))))
    (dSeq (dFor (dIter (dVar 2)) (gdName 7) (dSeq (dIfS (dAnd (dTst (dOp (rdIn true) (dDGet (dVar 4) (dVar 7)) (dVar 5))) (dTst (dOp rdLt (dCB rdLen (dCons (dVar 6) dNil)) (dVar 3)))) (dExp (dApp (dVar 6) (dCons (dVar 7) dNil))) dNext)
    (dExp (dApp (dVar 5) (dCons (dDGet (dVar 4) (dVar 7)) dNil)))))
    (dSeq (dSet 8 (dLc (dIter (dVar 2)) (gdName 7) (dTst (dOp (rdIn true) (dVar 7) (dVar 6))) (dVar 7) [7]))
    (dRet (dCB rdTuple (dCons (dOp rdAdd (dVar 6) (dSl rdSl (dVar 8) dNo (dPart (dOp rdSub (dVar 3) (dCB rdLen (dCons (dVar 6) dNil)))))) dNil))))))))
abbrev N_pick : List Str := ["_law_purse_here", "_law_menu"]
def db_pick (C : Addr) : DS :=
    (dRet (dOp rdIx (dVar 1) (dCall 2 (sd_draw C) (dCons (dVar 0) (dCons (dCB rdLen (dCons (dVar 1) dNil)) dNil)))))
abbrev N_marks : List Str := ["_law_purse_here", "_law_points_here", "_law_taken", "_law_many", "_law_found", "_law_k", "_law_mark", "_law_spare", "_law_each"]
def db_marks (C : Addr) : DS :=
    (dSeq (dSet 4 (dLstC dNil))
    (dSeq (dFor (dRng1 (dCons (dVar 3) dNil)) (gdName 5) (dSeq (dSet 6 (dCall 2 (sd_draw C) (dCons (dVar 0) (dCons (dVar 1) dNil))))
    (dIfS (dTst (dOp (rdIn true) (dVar 6) (dOp rdAdd (dVar 2) (dVar 4)))) (dExp (dApp (dVar 4) (dCons (dVar 6) dNil))) dNext)))
    (dSeq (dSet 7 (dLc (dRng1 (dCons (dOp rdAdd (dCB rdLen (dCons (dVar 2) dNil)) (dC (.int 1))) dNil)) (gdName 8) (dTst (dOp (rdIn true) (dVar 8) (dVar 2))) (dVar 8) [8]))
    (dRet (dCB rdTuple (dCons (dCB rdSortI (dCons (dIf (dTst (dOp rdNe (dVar 4) (dLst dNil))) (dVar 4) (dSl rdSl (dVar 7) dNo (dPart (dC (.int 1))))) dNil)) dNil))))))
abbrev N_ring : List Str := ["_law_purse_here", "_law_points_here", "_law_most", "_law_many", "_law_taken", "_law_hosts_here", "_law_k", "_law_marks_here", "_law_numbers_here", "_law_words"]
def db_ring (C : Addr) : DS :=
    (dSeq (dAsg (dTup (dCons (dOp rdAdd (dC (.int 1)) (dCall 2 (sd_draw C) (dCons (dVar 0) (dCons (dC (.int 5)) dNil)))) (dCons (dLst dNil) (dCons (dLstC dNil) dNil)))) (gdTup 3 (gdCons (gdName 3) (gdCons (gdName 4) (gdCons (gdName 5) gdNil)))))
    (dSeq (dFor (dRng1 (dCons (dCB rdMin2 (dCons (dVar 3) (dCons (dVar 1) dNil))) dNil)) (gdName 6) (dSeq (dSet 7 (dCall 4 (sd_marks C) (dCons (dVar 0) (dCons (dVar 1) (dCons (dVar 4) (dCons (dOp rdAdd (dC (.int 1)) (dCall 2 (sd_draw C) (dCons (dVar 0) (dCons (dVar 2) dNil)))) dNil))))))
    (dSeq (dSet 4 (dOp rdAdd (dVar 4) (dCB rdList (dCons (dVar 7) dNil))))
    (dSeq (dExp (dApp (dVar 5) (dCons (dTup (dCons (dOp rdIx (dC (.str "abcdefgh")) (dVar 6)) (dCons (dCall 2 (sd_pick C) (dCons (dVar 0) (dCons (dLst (dCons (dC (.str "r1")) (dCons (dC (.str "r1")) (dCons (dC (.str "r2")) (dCons (dC (.str "r3")) dNil))))) dNil))) (dCons (dVar 7) dNil)))) dNil)))
    (dIfS (dTst (dOp rdGe (dCB rdLen (dCons (dVar 4) dNil)) (dVar 1))) dBrk dNext)))))
    (dSeq (dSet 3 (dOp rdAdd (dC (.int 1)) (dCall 2 (sd_draw C) (dCons (dVar 0) (dCons (dC (.int 4)) dNil)))))
    (dSeq (dSet 8 (dLc (dRng1 (dCons (dC (.int 2)) dNil)) (gdName 6) dYes (dOp rdAdd (dC (.int 1)) (dCall 2 (sd_draw C) (dCons (dVar 0) (dCons (dVar 3) dNil)))) [6]))
    (dSeq (dSet 9 (dLst (dCons (dCall 2 (sd_pick C) (dCons (dVar 0) (dCons (dLst (dCons (dC (.str "hosts")) (dCons (dC (.str "racks")) dNil))) dNil))) (dCons (dCall 2 (sd_pick C) (dCons (dVar 0) (dCons (dLst (dCons (dC (.str "plain")) (dCons (dC (.str "with")) dNil))) dNil))) dNil))))
    (dRet (dLst (dCons (dVar 1) (dCons (dVar 3) (dCons (dOp rdIx (dVar 9) (dC (.int 0))) (dCons (dOp rdIx (dVar 8) (dC (.int 0))) (dCons (dOp rdIx (dVar 8) (dC (.int 1))) (dCons (dOp rdIx (dVar 9) (dC (.int 1))) (dCons (dCB rdTuple (dCons (dVar 5) dNil)) dNil))))))))))))))
abbrev N_mint : List Str := ["_law_ring_here", "_law_p", "_law_f", "_law_s", "_law_w", "_law_r", "_law_more", "_law_hosts_here"]
def db_mint (C : Addr) : DS :=
    (dSeq (dAsg (dVar 0) (gdLst 7 (gdCons (gdName 1) (gdCons (gdName 2) (gdCons (gdName 3) (gdCons (gdName 4) (gdCons (gdName 5) (gdCons (gdName 6) (gdCons (gdName 7) gdNil)))))))))
    (dRet (dMake C 8 (sd_Ring___init__ C) (dCons (dVar 1) (dCons (dVar 2) (dCons (dVar 3) (dCons (dVar 4) (dCons (dVar 5) (dCons (dVar 6) (dCons (dVar 7) dNil))))))))))
end R
set_option maxRecDepth 100000
set_option maxHeartbeats 1000000
namespace R
open PySem PySem.Spec PyProof.Rows L2 DL
local macro_rules | `(tactic| bv_omega) => `(tactic| first | assumption | exact mset_same)
local macro_rules | `(tactic| symm) => `(tactic| first
  | ((with_reducible show ∃ _, _ = _ ∧ _); refine ⟨_, rfl, ?_⟩)
  | ((with_reducible show _ = _ ∧ _); refine ⟨rfl, ?_⟩)
  | ((with_reducible show ∃ _ _, _ = _ ∧ _ = _ ∧ _); refine ⟨_, _, rfl, rfl, ?_⟩)
  | ((with_reducible show ∃ _ _, _ = _ ∧ _); refine ⟨_, _, rfl, ?_⟩)
  | ((with_reducible show ∃ _ _ _, _ = _ ∧ _); refine ⟨_, _, _, rfl, ?_⟩)
  | ((with_reducible show (_ ≤ _ ∧ _) ∧ _); refine ⟨by omega, ?_⟩)
  | with_reducible refine add_int ?_ | with_reducible refine sub_int ?_
  | with_reducible refine lt_int ?_ | with_reducible refine le_int ?_ | with_reducible refine gt_int ?_ | with_reducible refine ge_int ?_
  | with_reducible refine int_int ?_
  | with_reducible refine eq_int ?_ | with_reducible refine ne_int ?_
  | with_reducible refine len_tup ?_ | with_reducible refine len_lst ?_
  | ((with_reducible show rdIx (.cel _) (.int _) _ _); refine ix_cel (by bv_omega) (by rfl) ?_)
  | ((with_reducible show rdIx (.lst _) (.int _) _ _); refine ix_lst (by rfl) ?_)
  | ((with_reducible show rdIx (.tup _) (.int _) _ _); refine ix_tup (by rfl) ?_)
  | ((with_reducible show rdLen [.cel _] _ _); refine len_cel (by bv_omega) ?_)
  | ((with_reducible show rdMul (.int _) (.int _) _ _); first | refine mul_l (by decide) (by decide) ?_ | refine mul_r (by decide) (by decide) ?_ | refine mul_l (by omega) (by omega) ?_ | refine mul_r (by omega) (by omega) ?_)
  | ((with_reducible show rdDiv (.int _) (.int _) _ _); refine div_int (by first | decide | assumption | omega) (by first | decide | assumption | omega) ?_)
  | ((with_reducible show rdDivmod [.int _, .int _] _ _); refine dm_int (by first | decide | assumption | omega) (by first | decide | assumption | omega) ?_)
  | ((with_reducible show @ite _ (_ = true) _ _ _); first | refine ifYes (by first | with_reducible rfl | exact Bool.not_false | assumption) ?_ | refine ifNo (by first | with_reducible rfl | exact Bool.not_true | assumption) ?_)
  | ((with_reducible show ∃ _, _ ∧ _); refine ⟨_, celL_of (by bv_omega), ?_⟩)
  | ((with_reducible show ∃ _ _ _ _, _ ∧ _ ∧ _ ∧ _ ∧ _); refine ⟨_, _, _, _, rfl, rfl, by bv_omega, by rfl, ?_⟩)
  | ((with_reducible show (_ : Nat) ≤ sizeLine ∧ _); refine ⟨by rw [sizeLine_eq]; exact Nat.le_of_ble_eq_true rfl, ?_⟩))
local macro_rules | `(tactic| infer_instance) => `(tactic| ((repeat symm); try dsimp only))
local macro_rules | `(tactic| ac_rfl) => `(tactic| ((repeat (first | symm | ((with_reducible show rdMod (.int _) (.int _) _ _); refine mod_any (by first | decide | assumption | omega) ?_; intro _ _ _))); try dsimp only))
theorem kp_draw (C : Addr) : Keeps N_draw 2 (sd_draw C) (db_draw C) := by
  rintro ds M q ex hl ⟨k, n, g, rfl, n0, n1, ⟨a, b, c, hM, b0, b1, c0, c1⟩, hg, h⟩
  show db_draw C _ [some (.cel k), some (.int n), none, none, none] M
  unfold db_draw
  ac_rfl
  refine ifD (fun h1 => ?_) (fun h1 => ?_)
  · ac_rfl
    exact h _ _ (Int.emod_nonneg _ (by omega)) (Int.emod_lt_of_pos _ n0) ((((KeptB.refl M).self).self).self) ⟨_, _, _, mset_same, by assumption, by omega, by omega, by omega⟩
  · ac_rfl
    exact h _ _ (by assumption) (by assumption) (((KeptB.refl M).self).self) ⟨_, _, _, mset_same, by assumption, by omega, by omega, by omega⟩
theorem kp_pick (C : Addr) : Keeps N_pick 2 (sd_pick C) (db_pick C) := by
  rintro ds M q ex hl ⟨k, d, xs, g, rfl, hd, hs, x0, x1, hK, hg, h⟩
  show db_pick C _ [some (.cel k), some d] M
  unfold db_pick
  ac_rfl
  refine len_seq hs ?_
  ac_rfl
  refine ⟨k, _, g, rfl, by omega, by omega, hK, hg, fun v M' v0 v1 hB hK' => ?_⟩
  obtain ⟨x, e, m⟩ := atI_in v0 v1
  exact ix_seq (seq_kept hB hd hs) e (h x M' m hB hK')
theorem kp_mint (C : Addr) : Keeps N_mint 1 (sd_mint C) (db_mint C) := by
  rintro ds M q ex hl ⟨size, r, hs, rfl, s0, s1, hr, hc, h⟩
  show db_mint C _ [some (.lst (frameL size r hs)), none, none, none, none, none, none, none] M
  unfold db_mint
  ac_rfl
  intro c hcn
  refine ⟨c, size, r, hs, rfl, mset_same, s0, s1, hr, hc, rfl, fieldsD size r hs, ?_, ?_⟩
  · rw [mset_mset, mset_same]
  · rw [mset_mset]
    exact h _ ((Kept.new hcn).del hcn)
theorem abs_int {i : Int} {M : Mem} {q : QD} (w : q (.int (if i < 0 then -i else i)) M) : rdAbs [.int i] M q := w
theorem kp_purse (C : Addr) : Keeps N_purse 2 (sd_purse C) (db_purse C) := by
  rintro ds M q ex hl ⟨ns, t, rfl, ht, hn, hb, h⟩
  show db_purse C _ [some (.lsf (ns.map D.int)), some (.int t), none, none, none] M
  unfold db_purse
  ac_rfl
  refine len_seq rfl ?_
  ac_rfl
  refine ifD (fun h1 => ?_) (fun h1 => ?_)
  · rw [List.length_map] at h1
    have hlt : t < ns.length := by omega
    ac_rfl
    refine ix_seq (xs := ns.map D.int) rfl (atI_nat (n := t) (by rw [List.getElem?_map, List.getElem?_eq_getElem hlt]; rfl)) ?_
    ac_rfl
    refine ifD (fun h2 => ?_) (fun h2 => ?_)
    · ac_rfl
      refine abs_int ?_
      ac_rfl
      intro c hc
      exact h c _ hc (Kept.new hc) ⟨_, _, _, mset_same, by assumption, by omega, by decide, by decide⟩
    · ac_rfl
      refine pow_int (by refine ⟨?_, ?_, ?_⟩ <;> decide) ?_
      ac_rfl
      refine ifD (fun h3 => ?_) (fun h3 => ?_)
      · ac_rfl
        refine abs_int ?_
        ac_rfl
        intro c hc
        exact h c _ hc (Kept.new hc) ⟨_, _, _, mset_same, by assumption, by omega, by decide, by decide⟩
      · ac_rfl
        intro c hc
        exact h c _ hc (Kept.new hc) ⟨_, _, _, mset_same, by assumption, by omega, by decide, by decide⟩
  · ac_rfl
    refine sl_lsf (n := 4) ?_
    ac_rfl
    refine for_lst (fun i env M' => M' = M ∧ ∃ (m : Int) (w : Option D), env = [some (.lsf (ns.map D.int)), some (.int t), w, none, some (.int m)] ∧ 0 ≤ m ∧ m < 2147483648) ?_ ?_ _ _ ⟨rfl, _, _, rfl, by omega, by omega⟩
    · rintro env M' ⟨rfl, m, w, rfl, hm0, hm1⟩
      refine ⟨rfl, ?_⟩
      ac_rfl
      intro c hc
      exact h c _ hc (Kept.new hc) ⟨_, _, _, mset_same, hm0, hm1, by decide, by decide⟩
    · rintro i x env M' hx ⟨rfl, m, w, rfl, hm0, hm1⟩ nx hnx
      refine ⟨rfl, ?_⟩
      obtain ⟨z, _, rfl⟩ : ∃ z : Int, True ∧ x = .int z := by
        have := List.mem_of_mem_take (List.mem_of_getElem? hx)
        obtain ⟨z, _, e⟩ := List.mem_map.mp this
        exact ⟨z, trivial, e.symm⟩
      ac_rfl
      exact hnx _ _ ⟨rfl, _, _, rfl, by assumption, by omega⟩
theorem kp_walk (C : Addr) : Keeps N_walk 2 (sd_walk C) (db_walk C) := by
  rintro ds M q ex hl ⟨size, p, r, hs, rfl, s0, hc, h⟩
  show db_walk C _ [some (.lst (frameL size r hs)), some (.int p), none, none, none, none, none, none] M
  unfold db_walk
  have hf := hc.few
  infer_instance
  intro c hcn
  infer_instance
  refine for_lst (fun i env M' => ∃ (ws : List (Int × Str)) (w3 w4 w5 w6 w7 : Option D), M' = mset M c (.ls (ws.map DL.pairD)) ∧ env = [some (.lst (frameL size r hs)), some (.int p), some (.cel c), w3, w4, w5, w6, w7] ∧ ws.map (·.2) = (hs.take i).map (·.name) ∧ ∀ a ∈ ws, ∃ h ∈ hs, h.name = a.2 ∧ IsWay size p h.marks a.1) ?_ ?_ _ _ ⟨[], _, _, _, _, _, rfl, rfl, rfl, fun a ha => by simp at ha⟩
  · rintro env M' ⟨ws, w3, w4, w5, w6, w7, rfl, rfl, hw, ha⟩
    rw [List.length_map, List.take_length] at hw
    refine ⟨rfl, ?_⟩
    have hC : (mset M c (.ls (ws.map DL.pairD))) c = some (.ls (ws.map DL.pairD)) := mset_same
    have hK0 : Kept M (mset M c (.ls (ws.map DL.pairD))) := Kept.new hcn
    generalize mset M c (.ls (ws.map DL.pairD)) = M0 at *
    infer_instance
    refine ⟨_, _, ws, rfl, celL_of hC, pairsD_map ws, fun a ma b mb e => ?_, fun ps' hp hs' => ?_⟩
    · obtain ⟨o, mo, eo, wo⟩ := ha a ma
      obtain ⟨o', mo', eo', wo'⟩ := ha b mb
      rw [e] at wo
      have := way_apart hc mo mo' wo wo'
      rw [← eo, ← eo', this]
    · infer_instance
      intro c2 hc2
      have hlen : ps'.length ≤ 12 := by
        rw [hp.length_eq]
        have := congrArg List.length hw
        rw [List.length_map, List.length_map] at this
        omega
      refine lc_pure (fun _ => true) (fun d => match d with | .tup [_, b] => b | d => d) hc2 (by rw [List.length_map, sizeLine_eq]; omega) (fun _ => rfl) (fun y hy acc hz nx hyes _ => ?_) ?_
      · obtain ⟨⟨a1, a2⟩, ma, rfl⟩ := List.mem_map.mp hy
        unfold DL.pairD at hyes ⊢
        infer_instance
        exact acc_put hz (hyes rfl)
      · have e : ((ps'.map DL.pairD).filter (fun _ => true)).map (fun d => match d with | .tup [_, b] => b | d => d) = (ps'.map (·.2)).map D.str := by
          rw [List.filter_eq_self.mpr (fun _ _ => rfl), List.map_map, List.map_map]; rfl
        rw [e]
        refine h _ _ ⟨ps', hs', rfl, ?_, fun a m => ha a (hp.mem_iff.mp m)⟩ hK0
        have := hp.map (·.2)
        rw [hw] at this
        exact this
  · rintro i x env M' hx ⟨ws, w3, w4, w5, w6, w7, rfl, rfl, hw, ha⟩ nx hnx
    refine ⟨rfl, ?_⟩
    rw [List.getElem?_map] at hx
    obtain ⟨o, ho, rfl⟩ := omap hx
    have hi := (List.getElem?_eq_some_iff.mp ho).1
    have hmem := List.mem_of_getElem? ho
    have hm := crew_marks hc o hmem
    have hwl : ws.length ≤ 12 := by
      have := congrArg List.length hw
      rw [List.length_map, List.length_map, List.length_take] at this
      omega
    infer_instance
    refine ⟨c, _, rfl, mset_same, ?_⟩
    infer_instance
    intro c2 hc2
    have h16 := hm.few
    refine lc_pure (fun _ => true) (fun d => match d with | .int m => .int ((m - p) % size) | d => d) hc2 (by rw [List.length_map, sizeLine_eq]; omega) (fun _ => rfl) (fun y hy acc hz nx2 hyes _ => ?_) ?_
    · obtain ⟨m, hmm, rfl⟩ := List.mem_map.mp hy
      infer_instance
      refine mod_int s0 ?_
      exact acc_put hz (hyes rfl)
    · have e : (((o.marks.map D.int).filter fun _ => true).map fun d => match d with | .int m => .int ((m - p) % size) | d => d) = (o.marks.map fun m => (m - p) % size).map D.int := by
        rw [List.filter_eq_self.mpr fun _ _ => rfl, List.map_map, List.map_map]
        rfl
      rw [e]
      refine ⟨_, _, _, rfl, rfl, DL.ints_map _, by rw [List.length_map]; exact hm.ne, fun m m1 m2 => ?_⟩
      infer_instance
      refine ⟨_, _, rfl, mset_same, by rw [List.length_map, sizeLine_eq]; omega, hnx _ _ ⟨ws ++ [(m, o.name)], _, _, _, _, _, ?_, rfl, ?_, fun a ma => ?_⟩⟩
      · rw [mset_mset, List.map_append]; rfl
      · rw [List.map_append, hw, List.take_succ, ho, List.map_append]
        rfl
      · rcases List.mem_append.mp ma with ma | ma
        · exact ha a ma
        · rw [List.mem_singleton.mp ma]; exact ⟨o, hmem, rfl, m1, m2⟩
theorem keep_law {r : Rule} {hs : List Host} {ns : List Str} (hr : RuleOk r) (hnd : ns.Nodup) (hne : r.spread ≠ "hosts") : (firstsN hs ns ns.length).take r.wide.toNat ++ (ns.filter fun x => !decide (x ∈ (firstsN hs ns ns.length).take r.wide.toNat)).take (r.wide.toNat - ((firstsN hs ns ns.length).take r.wide.toNat).length) = keepersOf r hs ns := by
  have e := keep_same (hs := hs) hr hnd
  unfold keepL at e
  rw [if_neg hne] at e
  rw [← e, List.take_append, List.take_of_length_le (l := (firstsN hs ns ns.length).take r.wide.toNat) (by rw [List.length_take]; omega)]
theorem take_snoc {l : List Str} {x : Str} {w : Nat} : (l ++ [x]).take w = if (l.take w).length < w then l.take w ++ [x] else l.take w := by
  rw [List.length_take]
  by_cases h : l.length < w
  · rw [if_pos (by omega), List.take_of_length_le (l := l) (by omega), List.take_of_length_le (by rw [List.length_append, List.length_singleton]; omega)]
  · rw [if_neg (by omega), List.take_append_of_le_length (by omega)]
theorem bays_kv : ∀ l : List Host, kvsD (l.map fun o => D.tup [.str o.name, .str o.rack]) = some (bayL l)
  | [] => rfl
  | o :: l => by
    show (match keyD (.str o.name), kvsD (l.map fun o => D.tup [.str o.name, .str o.rack]) with | some k, some r => some ((k, D.str o.rack) :: r) | _, _ => none) = _
    rw [bays_kv l]; rfl
theorem kp_keepers (C : Addr) : Keeps N_keepers 2 (sd_keepers C) (db_keepers C) := by
  rintro ds M q ex hl ⟨size, p, r, hs, rfl, s0, hc, hr, h⟩
  show db_keepers C _ [some (.lst (frameL size r hs)), some (.int p), none, none, none, none, none, none, none] M
  unfold db_keepers
  have hsp : PyData.strOk r.spread = true := by
    rcases hr.s with e | e <;> rw [e] <;> decide +kernel
  obtain ⟨w, hwd⟩ := Int.eq_ofNat_of_zero_le (show 0 ≤ r.wide by have := hr.w; omega)
  infer_instance
  refine ⟨size, p, r, hs, rfl, s0, hc, fun ns M1 hw hK1 => ?_⟩
  have hnd := walk_nd hc hw
  have hin := walk_in hw
  have hlen := walk_len hw
  have hf := hc.few
  obtain rfl := walk_eq hc hw
  have ekf : keepF size r hs p = keepersOf r hs (walkF size hs p) := rfl
  rw [ekf] at h
  generalize walkF size hs p = ns at *
  infer_instance
  refine eq_str hsp (by decide +kernel) ?_
  infer_instance
  refine ifD (fun e => ?_) (fun e => ?_)
  · infer_instance
    rw [hwd]
    refine sl_lst (n := w) ?_
    rw [← List.map_take]
    infer_instance
    refine ⟨_, _, rfl, rfl, ?_⟩
    have e2 : keepersOf r hs ns = ns.take w := by unfold keepersOf; rw [if_neg (by rw [e]; decide), hwd]; rfl
    rw [e2] at h
    exact h M1 hK1
  · infer_instance
    intro c hcn
    refine lc_all hostD (fun o => .tup [.str o.name, .str o.rack]) hcn (by rw [sizeLine_eq]; omega) (fun _ => rfl) (fun o ho acc hz nx hnx => ?_) ?_
    · infer_instance
      exact acc_put hz hnx
    infer_instance
    refine ⟨_, _, _, rfl, rfl, bays_kv hs, fun a han => ?_⟩
    infer_instance
    intro s hs0
    infer_instance
    intro f hf0
    infer_instance
    have has : s ≠ a := fun e => by rw [e, mset_same] at hs0; cases hs0
    have hfs : f ≠ s := fun e => by rw [e, mset_same] at hf0; cases hf0
    have hfa : f ≠ a := fun e => by rw [e, mset_ne (Ne.symm has), mset_same] at hf0; cases hf0
    have hs1 : M1 s = none := by rw [mset_ne has] at hs0; exact hs0
    have hf1 : M1 f = none := by rw [mset_ne hfs, mset_ne hfa] at hf0; exact hf0
    have hml : (ns.map D.str).length = ns.length := List.length_map _
    refine for_map D.str (xs := ns) (fun i env M' => ∃ w7 : Option D, env = [some (.lst (frameL size r hs)), some (.int p), some (strsL ns), some (.int r.wide), some (.cel a), some (.cel s), some (.cel f), w7, none] ∧ M' a = some (.dc (mergeD [] (bayL hs))) ∧ M' s = some (.ls (((ns.take i).map (rackOf hs)).map D.str)) ∧ M' f = some (.ls (((firstsN hs ns i).take w).map D.str)) ∧ Kept M1 M') ?_ ?_ _ _
      ⟨none, rfl, by rw [mset_ne (Ne.symm hfa), mset_ne (Ne.symm has), mset_same], by rw [mset_ne (Ne.symm hfs), mset_same]; rfl, by rw [mset_same]; simp [firstsN], ((Kept.new han).put hs1).put hf1⟩
    · rintro env M' ⟨w7, rfl, hA, hS, hF, hK⟩
      refine ⟨rfl, ?_⟩
      infer_instance
      intro c2 hc2
      have hcf : c2 ≠ f := fun e => by rw [e, hF] at hc2; cases hc2
      refine lc_map D.str (fun x => !decide (x ∈ (firstsN hs ns ns.length).take w)) D.str hc2 (by rw [sizeLine_eq]; omega) (fun _ => rfl) (fun x hx acc hz nx hyes hno => ?_) ?_
      · infer_instance
        refine ni_str (xs := (firstsN hs ns ns.length).take w) (celL_of (by rw [mset_ne (Ne.symm hcf)]; exact hF)) ?_
        infer_instance
        refine ifB (fun hb => ?_) (fun hb => ?_)
        · infer_instance
          exact acc_put hz (hyes hb)
        · exact hno hb
      · infer_instance
        rw [List.length_map]
        have hfl := (firsts_in (hs := hs) (ns := ns) ns.length).1
        have hT : ((firstsN hs ns ns.length).take w).length ≤ w := by rw [List.length_take]; omega
        rw [hwd, show ((w : Nat) : Int) - (((firstsN hs ns ns.length).take w).length : Nat) = ((w - ((firstsN hs ns ns.length).take w).length : Nat) : Int) by omega]
        refine sl_lst ?_
        rw [← List.map_take]
        refine add_lst (celL_of hF) rfl (by
          rw [List.length_map, List.length_map, List.length_take, List.length_take, sizeLine_eq]
          have := List.length_filter_le (fun x => !decide (x ∈ (firstsN hs ns ns.length).take w)) ns
          omega) ?_
        rw [← List.map_append]
        infer_instance
        refine ⟨_, _, rfl, rfl, ?_⟩
        have ek := keep_law (hs := hs) hr hnd e
        rw [hwd] at ek
        rw [← ek] at h
        exact h M' (hK1.trans hK)
    · rintro i x env M' hx ⟨w7, rfl, hA, hS, hF, hK⟩ nx hnx
      refine ⟨rfl, ?_⟩
      have hi' := (List.getElem?_eq_some_iff.mp hx).1
      have hxm := List.mem_of_getElem? hx
      have step : firstsN hs ns (i + 1) = if rackOf hs x ∈ (ns.take i).map (rackOf hs) then firstsN hs ns i else firstsN hs ns i ++ [x] := by
        show (match ns[i]? with | some x => _ | none => _) = _
        rw [hx]
      have seen : (ns.take (i + 1)).map (rackOf hs) = (ns.take i).map (rackOf hs) ++ [rackOf hs x] := by rw [List.take_add_one, hx, List.map_append]; rfl
      have fin : ∀ M2 : Mem, M2 a = some (.dc (mergeD [] (bayL hs))) → M2 s = some (.ls (((ns.take i).map (rackOf hs)).map D.str)) → M2 f = some (.ls (((firstsN hs ns (i + 1)).take w).map D.str)) → Kept M1 M2 → nx [some (.lst (frameL size r hs)), some (.int p), some (strsL ns), some (.int r.wide), some (.cel a), some (.cel s), some (.cel f), some (.str x), none] (mset M2 s (.ls (((ns.take i).map (rackOf hs)).map D.str ++ [.str (rackOf hs x)]))) := fun M2 h1 h2 h3 h4 =>
        hnx _ _ ⟨_, rfl, by rw [mset_ne (Ne.symm has)]; exact h1, by rw [mset_same, seen, List.map_append]; rfl, by rw [mset_ne hfs]; exact h3, h4.put hs1⟩
      have hsl : (((ns.take i).map (rackOf hs)).map D.str).length < sizeLine := by rw [List.length_map, List.length_map, List.length_take, sizeLine_eq]; omega
      infer_instance
      refine ⟨a, _, .inr x, _, rfl, hA, rfl, bays_at hc (hin x hxm), ?_⟩
      infer_instance
      refine ni_str (xs := (ns.take i).map (rackOf hs)) (celL_of hS) ?_
      infer_instance
      refine ifB (fun hb => ?_) (fun hb => ?_)
      · infer_instance
        rw [List.length_map]
        have hb' : rackOf hs x ∉ (ns.take i).map (rackOf hs) := by simpa using hb
        rw [if_neg hb'] at step
        have hfl := (firsts_in (hs := hs) (ns := ns) i).1
        have sn := take_snoc (l := firstsN hs ns i) (x := x) (w := w)
        rw [← step] at sn
        refine ifB (fun hb2 => ?_) (fun hb2 => ?_)
        · have hb2 := of_decide_eq_true hb2
          rw [if_pos (by omega)] at sn
          infer_instance
          refine ⟨f, _, rfl, hF, ?_⟩
          infer_instance
          refine ⟨_, _, rfl, hF, by rw [List.length_map, List.length_take, sizeLine_eq]; omega, ?_⟩
          have hS2 : (mset M' f (.ls (((firstsN hs ns i).take w).map D.str ++ [.str x]))) s = some (.ls (((ns.take i).map (rackOf hs)).map D.str)) := by rw [mset_ne (Ne.symm hfs)]; exact hS
          have hA2 : (mset M' f (.ls (((firstsN hs ns i).take w).map D.str ++ [.str x]))) a = some (.dc (mergeD [] (bayL hs))) := by rw [mset_ne (Ne.symm hfa)]; exact hA
          have hF2 : (mset M' f (.ls (((firstsN hs ns i).take w).map D.str ++ [.str x]))) f = some (.ls (((firstsN hs ns (i + 1)).take w).map D.str)) := by rw [mset_same, sn, List.map_append]; rfl
          infer_instance
          refine ⟨s, _, rfl, hS2, ?_⟩
          infer_instance
          refine ⟨a, _, .inr x, _, rfl, hA2, rfl, bays_at hc (hin x hxm), ?_⟩
          infer_instance
          exact ⟨_, _, rfl, hS2, hsl, fin _ hA2 hS2 hF2 (hK.put hf1)⟩
        · have hb2 := of_decide_eq_false hb2
          rw [if_neg (by omega)] at sn
          infer_instance
          refine ⟨s, _, rfl, hS, ?_⟩
          infer_instance
          refine ⟨a, _, .inr x, _, rfl, hA, rfl, bays_at hc (hin x hxm), ?_⟩
          infer_instance
          exact ⟨_, _, rfl, hS, hsl, fin _ hA hS (by rw [sn]; exact hF) hK⟩
      · have hb' : rackOf hs x ∈ (ns.take i).map (rackOf hs) := by simpa using hb
        rw [if_pos hb'] at step
        infer_instance
        refine ⟨s, _, rfl, hS, ?_⟩
        infer_instance
        refine ⟨a, _, .inr x, _, rfl, hA, rfl, bays_at hc (hin x hxm), ?_⟩
        infer_instance
        exact ⟨_, _, rfl, hS, hsl, fin _ hA hS (by rw [step]; exact hF) hK⟩
end R
set_option maxRecDepth 100000
set_option maxHeartbeats 1000000
namespace R
open PySem PySem.Spec PyProof.Rows L2 DL
local macro_rules | `(tactic| bv_omega) => `(tactic| first | assumption | exact mset_same)
local macro_rules | `(tactic| symm) => `(tactic| first
  | ((with_reducible show ∃ _, _ = _ ∧ _); refine ⟨_, rfl, ?_⟩)
  | ((with_reducible show _ = _ ∧ _); refine ⟨rfl, ?_⟩)
  | ((with_reducible show ∃ _ _, _ = _ ∧ _ = _ ∧ _); refine ⟨_, _, rfl, rfl, ?_⟩)
  | ((with_reducible show ∃ _ _, _ = _ ∧ _); refine ⟨_, _, rfl, ?_⟩)
  | ((with_reducible show ∃ _ _ _, _ = _ ∧ _); refine ⟨_, _, _, rfl, ?_⟩)
  | ((with_reducible show (_ ≤ _ ∧ _) ∧ _); refine ⟨by omega, ?_⟩)
  | with_reducible refine add_int ?_ | with_reducible refine sub_int ?_
  | with_reducible refine lt_int ?_ | with_reducible refine le_int ?_ | with_reducible refine gt_int ?_ | with_reducible refine ge_int ?_
  | with_reducible refine int_int ?_
  | with_reducible refine eq_int ?_ | with_reducible refine ne_int ?_
  | with_reducible refine len_tup ?_ | with_reducible refine len_lst ?_
  | ((with_reducible show rdIx (.cel _) (.int _) _ _); refine ix_cel (by bv_omega) (by rfl) ?_)
  | ((with_reducible show rdIx (.lst _) (.int _) _ _); refine ix_lst (by rfl) ?_)
  | ((with_reducible show rdIx (.tup _) (.int _) _ _); refine ix_tup (by rfl) ?_)
  | ((with_reducible show rdLen [.cel _] _ _); refine len_cel (by bv_omega) ?_)
  | ((with_reducible show rdMul (.int _) (.int _) _ _); first | refine mul_l (by decide) (by decide) ?_ | refine mul_r (by decide) (by decide) ?_ | refine mul_l (by omega) (by omega) ?_ | refine mul_r (by omega) (by omega) ?_)
  | ((with_reducible show rdDiv (.int _) (.int _) _ _); refine div_int (by first | decide | assumption | omega) (by first | decide | assumption | omega) ?_)
  | ((with_reducible show rdDivmod [.int _, .int _] _ _); refine dm_int (by first | decide | assumption | omega) (by first | decide | assumption | omega) ?_)
  | ((with_reducible show @ite _ (_ = true) _ _ _); first | refine ifYes (by first | with_reducible rfl | exact Bool.not_false | assumption) ?_ | refine ifNo (by first | with_reducible rfl | exact Bool.not_true | assumption) ?_)
  | ((with_reducible show ∃ _, _ ∧ _); refine ⟨_, celL_of (by bv_omega), ?_⟩)
  | ((with_reducible show ∃ _ _ _ _, _ ∧ _ ∧ _ ∧ _ ∧ _); refine ⟨_, _, _, _, rfl, rfl, by bv_omega, by rfl, ?_⟩)
  | ((with_reducible show (_ : Nat) ≤ sizeLine ∧ _); refine ⟨by rw [sizeLine_eq]; exact Nat.le_of_ble_eq_true rfl, ?_⟩))
local macro_rules | `(tactic| infer_instance) => `(tactic| ((repeat symm); try dsimp only))
local macro_rules | `(tactic| ac_rfl) => `(tactic| ((repeat (first | symm | ((with_reducible show rdMod (.int _) (.int _) _ _); refine mod_any (by first | decide | assumption | omega) ?_; intro _ _ _))); try dsimp only))
section
variable {ok : Mem → Prop} {g : GD} {body : DS} {d : EndD}
theorem for_rng_brk {lo : Int} {n : Nat} (I : Nat → EnvD → Mem → Prop) (J : EnvD → Mem → Prop) (hJ : ∀ env M, J env M → d.nx env M) (h0 : ∀ env M, I n env M → ok M ∧ J env M)
    (hs : ∀ i env M, i < n → I i env M → ∀ nx bk : EnvD → Mem → Prop, (∀ env' M', I (i + 1) env' M' → nx env' M') → (∀ env' M', J env' M' → bk env' M') → ok M ∧ g (.int (lo + (i : Nat))) env M (fun env' M' => body { d with nx := nx, ct := nx, bk := bk } env' M') d.ex) (env : EnvD) (M : Mem) (h : I 0 env M) : forW ok g body d (rngD lo n) env M :=
  for_rng I (fun env M h => ⟨(h0 env M h).1, hJ _ _ (h0 env M h).2⟩) (fun i env M hi hI nx hn => hs i env M hi hI nx d.nx hn hJ) env M h
end
theorem py_ints {M : Mem} {c : Addr} {ss : List Int} (h : M c = some (.ls (ss.map D.int))) : pyOf M (.cel c) = some (.list (ss.map PyData.int)) := by
  show (match celL M c with | some xs => (toPys xs).map PyData.list | none => none) = _
  rw [celL_of h]
  show (toPys (ss.map D.int)).map PyData.list = _
  rw [toPys_int]; rfl
theorem kp_marks (C : Addr) : Keeps N_marks 4 (sd_marks C) (db_marks C) := by
  rintro ds M q ex hl ⟨k, g, size, ts, many, rfl, hts, hsz, h100, m1, m16, hK, hg, h⟩
  show db_marks C _ [some (.cel k), some (.int size), some (.lst (ts.map D.int)), some (.int many), none, none, none, none, none] M
  unfold db_marks
  have hml : (ts.map D.int).length = ts.length := List.length_map _
  infer_instance
  intro c hcn
  have hck := kg_ne hK hcn
  infer_instance
  refine for_rng (n := ((many : Nat) : Int).toNat) (fun i env M' => ∃ (ss : List Int) (w5 w6 : Option D), env = [some (.cel k), some (.int size), some (.lst (ts.map D.int)), some (.int many), some (.cel c), w5, w6, none, none] ∧ M' c = some (.ls (ss.map D.int)) ∧ ss.length ≤ i ∧ ss.Nodup ∧ (∀ m ∈ ss, (0 ≤ m ∧ m < size) ∧ m ∉ ts) ∧ KeptB k M M' ∧ Kg M' k (g + i)) ?_ ?_ _ _
    ⟨[], _, _, rfl, mset_same, Nat.le_refl _, .nil, fun m hm => by simp at hm, (Kept.new hcn).b, by rw [show g + ((0 : Nat) : Int) = g by omega]; exact kg_put hK hcn⟩
  · rintro env M' ⟨ss, w5, w6, rfl, hC, hsl, hsn, hsi, hB, hKg⟩
    refine ⟨trivial, ?_⟩
    infer_instance
    rw [List.length_map]
    intro c2 hc2
    have hcc : c2 ≠ c := fun e => by rw [e, hC] at hc2; cases hc2
    have er : rngD 0 ((ts.length : Int) + 1).toNat = (List.range (ts.length + 1)).map fun i : Nat => D.int (0 + (i : Int)) := by
      unfold rngD
      rw [show ((ts.length : Int) + 1).toNat = ts.length + 1 by omega]
    rw [er]
    refine lc_map (fun i : Nat => D.int (0 + (i : Int))) (fun i : Nat => !decide ((0 + (i : Int)) ∈ ts)) (fun i : Nat => D.int (0 + (i : Int))) hc2 (by rw [List.length_range, sizeLine_eq]; omega) (fun _ => trivial) (fun x hx acc hz nx hyes hno => ?_) ?_
    · infer_instance
      refine ni_int (xs := ts) rfl ?_
      infer_instance
      refine ifB (fun hb => ?_) (fun hb => ?_)
      · infer_instance
        exact acc_put hz (hyes hb)
      · exact hno hb
    · infer_instance
      refine ne_nil (py_ints hC) (shInts ss) ?_
      infer_instance
      have fin : ∀ (ns ns' : List Int) , 1 ≤ ns.length → ns.length ≤ many → ns.Nodup → (∀ m ∈ ns, (0 ≤ m ∧ m < size) ∧ m ∉ ts) → ns'.Perm ns → ns'.Pairwise (· ≤ ·) → q (.tup (ns'.map D.int)) M' := fun ns ns' h1 h2 h3 h4 hp hs' => by
        have hnl := hp.length_eq
        refine h ns' M' ⟨by omega, by omega, nodup_asc hs' (hp.nodup_iff.mpr h3), fun m hm => (h4 m (hp.mem_iff.mp hm)).1⟩ (by omega) (fun m hm => (h4 m (hp.mem_iff.mp hm)).2) hB (kg_le hKg (by omega))
      refine ifB (fun hb => ?_) (fun hb => ?_)
      · infer_instance
        refine ⟨_, _, ss, rfl, celL_of hC, DL.ints_map ss, fun ns' hp hs' => ?_⟩
        infer_instance
        refine ⟨_, _, rfl, rfl, ?_⟩
        have h1 : 1 ≤ ss.length := by
          cases ss with
          | nil => cases hb
          | cons a l => rw [List.length_cons]; omega
        exact fin ss ns' h1 (by omega) hsn hsi hp hs'
      · infer_instance
        refine sl_lst (n := 1) ?_
        infer_instance
        rw [← List.map_take]
        obtain ⟨s, hs1, hs2⟩ := some_free (size := size) (wish := 0) hts
        rw [Int.emod_eq_of_lt (by omega) (by omega)] at hs2
        have hne : ((List.range (ts.length + 1)).filter fun i : Nat => !decide ((0 + (i : Int)) ∈ ts)) ≠ [] := List.ne_nil_of_mem (a := s) (List.mem_filter.mpr ⟨List.mem_range.mpr (by omega), by rw [decide_eq_false hs2]; rfl⟩)
        obtain ⟨j, l, ej⟩ := List.exists_cons_of_ne_nil hne
        have hj : j ∈ ((List.range (ts.length + 1)).filter fun i : Nat => !decide ((0 + (i : Int)) ∈ ts)) := by rw [ej]; exact List.mem_cons_self
        obtain ⟨hj1, hj2⟩ := List.mem_filter.mp hj
        rw [ej]
        refine ⟨_, [.int (0 + (j : Int))], [0 + (j : Int)], rfl, rfl, rfl, fun ns' hp hs' => ?_⟩
        infer_instance
        refine ⟨_, _, rfl, rfl, ?_⟩
        have := List.mem_range.mp hj1
        refine fin [0 + (j : Int)] ns' (Nat.le_refl _) m1 (by simp) (fun m hm => ?_) hp hs'
        rw [List.mem_singleton.mp hm]
        exact ⟨⟨by omega, by omega⟩, by simpa using hj2⟩
  · rintro i env M' hi ⟨ss, w5, w6, rfl, hC, hsl, hsn, hsi, hB, hKg⟩ nx hnx
    refine ⟨trivial, ?_⟩
    infer_instance
    refine ⟨k, size, _, rfl, by omega, by omega, hKg, by omega, fun v M2 v0 v1 hB2 hK2 => ?_⟩
    have hC2 := hB2 _ _ hC hck
    infer_instance
    refine add_lst rfl (celL_of hC2) (by rw [List.length_map, List.length_map, sizeLine_eq]; omega) ?_
    rw [← List.map_append]
    infer_instance
    refine ni_int (xs := ts ++ ss) rfl ?_
    infer_instance
    refine ifB (fun hb => ?_) (fun hb => ?_)
    · infer_instance
      refine ⟨c, _, rfl, hC2, ?_⟩
      infer_instance
      have hb' : v ∉ ts ++ ss := by simpa using hb
      rw [List.mem_append] at hb'
      refine ⟨_, _, rfl, hC2, by rw [List.length_map, sizeLine_eq]; omega, hnx _ _ ⟨ss ++ [v], _, _, rfl, ?_, ?_, ?_, fun m hm => ?_, (hB.trans hB2).put hcn, ?_⟩⟩
      · rw [mset_same, List.map_append]; rfl
      · rw [List.length_append, List.length_singleton]; omega
      · rw [List.nodup_append]
        refine ⟨hsn, by simp, fun a ha b hb e => ?_⟩
        rw [List.mem_singleton.mp hb] at e
        exact hb' (.inr (by rw [← e]; exact ha))
      · rcases List.mem_append.mp hm with hm | hm
        · exact hsi m hm
        · rw [List.mem_singleton.mp hm]
          exact ⟨⟨v0, v1⟩, fun z => hb' (.inl z)⟩
      · obtain ⟨b1, b2, b3, b4, b5⟩ := hK2
        exact ⟨b1, b2, b3, by rw [mset_ne (Ne.symm hck)]; exact b4, by omega⟩
    · exact hnx _ _ ⟨ss, _, _, rfl, hC2, by omega, hsn, hsi, hB.trans hB2, kg_le hK2 (by omega)⟩
theorem abc_at : ∀ i : Nat, i < 5 → ∃ c x, atI ("abcdefgh" : Str).cps.toList (i : Int) = some c ∧ (⟨#[c]⟩ : Str) = x ∧ abc[i]? = some x ∧ nameB x = true
  | 0, _ => ⟨97, "a", by decide +kernel, by decide +kernel, rfl, by decide +kernel⟩
  | 1, _ => ⟨98, "b", by decide +kernel, by decide +kernel, rfl, by decide +kernel⟩
  | 2, _ => ⟨99, "c", by decide +kernel, by decide +kernel, rfl, by decide +kernel⟩
  | 3, _ => ⟨100, "d", by decide +kernel, by decide +kernel, rfl, by decide +kernel⟩
  | 4, _ => ⟨101, "e", by decide +kernel, by decide +kernel, rfl, by decide +kernel⟩
  | n + 5, h => by omega
theorem abc_nd : abc.Nodup := by unfold abc; decide +kernel
theorem rack_ok : ∀ x ∈ (["r1", "r2", "r3"] : List Str), nameB x = true := by decide +kernel
structure Grown (size : Int) (most : Nat) (hs : List Host) : Prop where
  few : hs.length ≤ 5
  names : hs.map (·.name) = abc.take hs.length
  each : ∀ h ∈ hs, HostT size h
  apart : hs.Pairwise Apart
  marks : ∀ h ∈ hs, h.marks.length ≤ most ∧ h.rack ∈ (["r1", "r2", "r3"] : List Str)
theorem grown_len {size : Int} {most : Nat} {hs : List Host} (G : Grown size most hs) (h16 : most ≤ 16) : (hs.flatMap (·.marks)).length ≤ 16 * hs.length := by
  have h3 := sum_le (l := hs) (f := fun o : Host => o.marks.length) (b := 16) fun o ho => by have := (G.marks o ho).1; omega
  rw [List.length_flatMap]
  omega
theorem kp_ring (C : Addr) : Keeps N_ring 3 (sd_ring C) (db_ring C) := by
  rintro ds M q ex hl ⟨k, g, size, most, rfl, s1, s2, m1, m16, hK, hg, h⟩
  show db_ring C _ [some (.cel k), some (.int size), some (.int most), none, none, none, none, none, none, none] M
  unfold db_ring
  infer_instance
  refine ⟨k, 5, _, rfl, by decide, by decide, hK, by omega, fun v M1 v0 v1 hB1 hK1 => ?_⟩
  infer_instance
  intro c hcn
  have hck := kg_ne hK1 hcn
  infer_instance
  refine min_int fun n n1 n2 n3 => ?_
  infer_instance
  have hn : 1 ≤ n ∧ n ≤ 5 := by omega
  refine for_rng_brk (n := n.toNat) (fun i env M' => ∃ (hs : List Host) (w3 w6 w7 : Option D), env = [some (.cel k), some (.int size), some (.int most), w3, some (.lst ((hs.flatMap (·.marks)).map D.int)), some (.cel c), w6, w7, none, none] ∧ M' c = some (.ls (hs.map hostD)) ∧ hs.length = i ∧ Grown size most hs ∧ ((hs.flatMap (·.marks)).length : Int) < size ∧ KeptB k M M' ∧ Kg M' k (g + 1 + 60 * i))
    (fun env M' => ∃ (hs : List Host) (w3 w4 w6 w7 : Option D), env = [some (.cel k), some (.int size), some (.int most), w3, w4, some (.cel c), w6, w7, none, none] ∧ M' c = some (.ls (hs.map hostD)) ∧ 1 ≤ hs.length ∧ Grown size most hs ∧ KeptB k M M' ∧ Kg M' k (g + 400)) ?_ ?_ ?_ _ _ ⟨[], _, _, _, rfl, mset_same, rfl, ⟨by simp, rfl, by simp, .nil, by simp⟩, by simp; omega, hB1.put (by
      cases e : M c with
      | none => rfl
      | some y => have := hB1 c _ e hck; rw [hcn] at this; cases this), kg_le (kg_put hK1 hcn) (by omega)⟩
  · rintro env M' ⟨hs, w3, w4, w6, w7, rfl, hC, hl1, G, hB, hKg⟩
    infer_instance
    refine ⟨k, 4, _, rfl, by decide, by decide, hKg, by omega, fun v M2 v0 v1 hB2 hK2 => ?_⟩
    have hC2 := hB2 _ _ hC hck
    infer_instance
    intro c2 hc2
    have hck2 := kg_ne hK2 hc2
    refine lc_lst (fun j M' => KeptB k M2 M' ∧ Kg M' k (g + 401 + j) ∧ ∃ xs : List Int, M' c2 = some (.ls (xs.map D.int)) ∧ xs.length = j ∧ ∀ x ∈ xs, 1 ≤ x ∧ x ≤ 1 + v) ?_ ?_ _ ⟨(Kept.new hc2).b, kg_le (kg_put hK2 hc2) (by omega), [], mset_same, rfl, fun x hx => by simp at hx⟩
    · rintro M3 ⟨hB3, hK3, xs, hX, hxl, hxi⟩
      refine ⟨trivial, _, hX, ?_⟩
      have hB4 : KeptB k M2 (mdel M3 c2) := fun d y hd hdk => by
        unfold mdel
        rw [if_neg (fun e => by rw [e, hc2] at hd; cases hd)]; exact hB3 d y hd hdk
      have hK4 : Kg (mdel M3 c2) k (g + 403) := by
        obtain ⟨b1, b2, b3, b4, b5, b6, b7, b8⟩ := hK3
        exact ⟨b1, b2, b3, by unfold mdel; rw [if_neg (Ne.symm hck2)]; exact b4, b5, b6, b7, by have : (rngD 0 2).length = 2 := rfl; simp only [Int.toNat] at b8; omega⟩
      have hC4 := hB4 _ _ hC2 hck
      generalize mdel M3 c2 = M4 at *
      have hx2 : xs.length = 2 := hxl
      obtain ⟨x1, x2, rfl⟩ : ∃ x1 x2, xs = [x1, x2] := by
        match xs, hx2 with
        | [a, b], _ => exact ⟨a, b, rfl⟩
      have h1 := hxi x1 (by simp)
      have h2 := hxi x2 (by simp)
      infer_instance
      refine ⟨k, _, _, _, rfl, (fun z => nomatch z), rfl, by simp, by simp, hK4, by omega, fun y M5 my hB5 hK5 => ?_⟩
      obtain ⟨sp, hsp, rfl⟩ : ∃ sp : Str, (sp = "hosts" ∨ sp = "racks") ∧ y = .str sp := by
        simp only [List.mem_cons, List.not_mem_nil, or_false] at my
        rcases my with rfl | rfl
        · exact ⟨_, .inl rfl, rfl⟩
        · exact ⟨_, .inr rfl, rfl⟩
      infer_instance
      refine ⟨k, _, _, _, rfl, (fun z => nomatch z), rfl, by simp, by simp, hK5, by omega, fun y M6 my hB6 hK6 => ?_⟩
      obtain ⟨pe, hpe, rfl⟩ : ∃ pe : Str, (pe = "plain" ∨ pe = "with") ∧ y = .str pe := by
        simp only [List.mem_cons, List.not_mem_nil, or_false] at my
        rcases my with rfl | rfl
        · exact ⟨_, .inl rfl, rfl⟩
        · exact ⟨_, .inr rfl, rfl⟩
      have hC6 := hB6 _ _ (hB5 _ _ hC4 hck) hck
      infer_instance
      refine ⟨_, _, rfl, celL_of hC6, ?_⟩
      infer_instance
      exact h ⟨1 + v, sp, x1, x2, pe⟩ hs M6 ⟨⟨by show 1 ≤ 1 + v; omega, by show 1 + v ≤ 5; omega⟩, hsp, ⟨h1.1, h1.2⟩, ⟨h2.1, h2.2⟩, hpe⟩ (by show 1 + v ≤ 4; omega) (crew_of (fun e => by rw [e] at hl1; simp at hl1) (by have := G.few; omega) G.each G.apart) G.few G.names G.marks ((((hB.trans hB2).trans hB4).trans hB5).trans hB6) (kg_le hK6 (by omega))
    · rintro j x M3 hx ⟨hB3, hK3, xs, hX, hxl, hxi⟩ nx hnx
      refine ⟨trivial, ?_⟩
      have hj : j < 2 := (List.getElem?_eq_some_iff.mp hx).1
      infer_instance
      refine ⟨k, 1 + v, _, rfl, by omega, by omega, hK3, by omega, fun u M4 u0 u1 hB4 hK4 => ?_⟩
      have hX4 := hB4 _ _ hX hck2
      infer_instance
      refine ⟨_, hX4, by rw [List.length_map, sizeLine_eq]; omega, hnx _ ⟨fun d y hd hdk => ?_, ?_, xs ++ [1 + u], ?_, by rw [List.length_append, List.length_singleton]; omega, fun x hx => ?_⟩⟩
      · rw [mset_ne (fun e => by rw [e, hc2] at hd; cases hd)]
        exact hB4 _ _ (hB3 d y hd hdk) hdk
      · obtain ⟨b1, b2, b3, b4, b5⟩ := hK4
        exact ⟨b1, b2, b3, by rw [mset_ne (Ne.symm hck2)]; exact b4, by omega⟩
      · rw [mset_same, List.map_append]; rfl
      · rcases List.mem_append.mp hx with hx | hx
        · exact hxi x hx
        · rw [List.mem_singleton.mp hx]; omega
  · rintro env M' ⟨hs, w3, w6, w7, rfl, hC, hl1, G, hfr, hB, hKg⟩
    exact ⟨trivial, hs, _, _, _, _, rfl, hC, by omega, G, hB, kg_le hKg (by omega)⟩
  · rintro i env M' hi ⟨hs, w3, w6, w7, rfl, hC, hl1, G, hfr, hB, hKg⟩ nx bk hnx hbk
    refine ⟨trivial, ?_⟩
    have hgl := grown_len G m16
    have hml : ((hs.flatMap (·.marks)).map D.int).length = (hs.flatMap (·.marks)).length := List.length_map _
    rw [show (0 : Int) + (i : Nat) = (i : Nat) by omega]
    infer_instance
    refine ⟨k, most, _, rfl, by omega, by omega, hKg, by omega, fun u M2 u0 u1 hB2 hK2 => ?_⟩
    infer_instance
    obtain ⟨mn, rfl⟩ := Int.eq_ofNat_of_zero_le u0
    rw [show (1 : Int) + (mn : Nat) = ((1 + mn : Nat) : Int) by omega]
    refine ⟨k, _, size, hs.flatMap (·.marks), 1 + mn, rfl, hfr, s2, by omega, by omega, by omega, hK2, by omega, fun ms M3 hms hm1 hmf hB3 hK3 => ?_⟩
    infer_instance
    refine ⟨_, _, rfl, rfl, ?_⟩
    refine add_lst rfl rfl (by rw [List.length_map, List.length_map, sizeLine_eq]; have := hms.few; omega) ?_
    have hC3 := hB3 _ _ (hB2 _ _ hC hck) hck
    obtain ⟨ch, x, e1, e2, e3, e4⟩ := abc_at i (by omega)
    infer_instance
    refine ⟨c, _, rfl, hC3, ?_⟩
    infer_instance
    refine ix_str (by rw [sizeLine_eq]; decide +kernel) e1 ?_
    rw [e2]
    infer_instance
    refine ⟨k, _, _, _, rfl, (fun z => nomatch z), rfl, by simp, by simp, hK3, by omega, fun y M4 my hB4 hK4 => ?_⟩
    obtain ⟨bay, hbay, rfl⟩ : ∃ bay : Str, bay ∈ (["r1", "r2", "r3"] : List Str) ∧ y = .str bay := by
      simp only [List.mem_cons, List.not_mem_nil, or_false] at my
      rcases my with rfl | rfl | rfl | rfl
      · exact ⟨_, by simp, rfl⟩
      · exact ⟨_, by simp, rfl⟩
      · exact ⟨_, by simp, rfl⟩
      · exact ⟨_, by simp, rfl⟩
    have hC4 := hB4 _ _ hC3 hck
    infer_instance
    have hgl2 : hs.length < sizeLine := by rw [sizeLine_eq]; omega
    refine ⟨_, _, rfl, hC4, by rw [List.length_map]; exact hgl2, ?_⟩
    have G' : Grown size most (hs ++ [⟨x, bay, ms⟩]) := by
      have ht : abc.take (i + 1) = abc.take i ++ [x] := by rw [List.take_add_one, e3]; rfl
      have hxn : x ∉ abc.take i := fun z => by
        obtain ⟨j, hj⟩ := List.getElem?_of_mem z
        have hj1 := (List.getElem?_eq_some_iff.mp hj).1
        rw [List.length_take] at hj1
        rw [List.getElem?_take_of_lt (by omega)] at hj
        obtain ⟨a1, a2⟩ := List.getElem?_eq_some_iff.mp e3
        obtain ⟨b1, b2⟩ := List.getElem?_eq_some_iff.mp hj
        have := List.pairwise_iff_getElem.mp abc_nd j i b1 a1 (by omega)
        rw [a2, b2] at this
        exact this rfl
      refine ⟨by rw [List.length_append, List.length_singleton]; omega, ?_, fun o ho => ?_, ?_, fun o ho => ?_⟩
      · rw [List.map_append, G.names, List.length_append, List.length_singleton, hl1, ht]; rfl
      · rcases List.mem_append.mp ho with ho | ho
        · exact G.each o ho
        · rw [List.mem_singleton.mp ho]; exact ⟨e4, rack_ok _ hbay, hms⟩
      · rw [List.pairwise_append]
        refine ⟨G.apart, by simp, fun a ha b hb => ?_⟩
        rw [List.mem_singleton.mp hb]
        refine ⟨fun e => hxn ?_, fun m hm hm2 => hmf m hm (List.mem_flatMap.mpr ⟨a, ha, hm2⟩)⟩
        have hn2 := G.names
        rw [hl1] at hn2
        rw [← hn2]
        exact List.mem_map.mpr ⟨a, ha, e⟩
      · rcases List.mem_append.mp ho with ho | ho
        · exact G.marks o ho
        · rw [List.mem_singleton.mp ho]; exact ⟨by show ms.length ≤ most; omega, hbay⟩
    have ef : (hs.flatMap (·.marks)).map D.int ++ ms.map D.int = ((hs ++ [(⟨x, bay, ms⟩ : Host)]).flatMap (·.marks)).map D.int := by
      rw [List.flatMap_append, List.map_append]; simp
    rw [ef]
    have eh : hs.map hostD ++ [.tup [.str x, .str bay, intsT ms]] = (hs ++ [(⟨x, bay, ms⟩ : Host)]).map hostD := by rw [List.map_append]; rfl
    rw [eh]
    generalize hgg : hs ++ [(⟨x, bay, ms⟩ : Host)] = hs' at *
    have hl' : hs'.length = i + 1 := by rw [← hgg, List.length_append, List.length_singleton, hl1]
    have hC5 : (mset M4 c (.ls (hs'.map hostD))) c = some (.ls (hs'.map hostD)) := mset_same
    have hB5 : KeptB k M (mset M4 c (.ls (hs'.map hostD))) := (((hB.trans hB2).trans hB3).trans hB4).put (by
      cases e : M c with
      | none => rfl
      | some y => have := hB1 c _ e hck; rw [hcn] at this; cases this)
    have hK5 : Kg (mset M4 c (.ls (hs'.map hostD))) k (g + 1 + 60 * ((i + 1 : Nat) : Int)) := by
      obtain ⟨b1, b2, b3, b4, b5⟩ := hK4
      exact ⟨b1, b2, b3, by rw [mset_ne (Ne.symm hck)]; exact b4, by omega⟩
    generalize mset M4 c (.ls (hs'.map hostD)) = M5 at *
    have hml2 : ((hs'.flatMap (·.marks)).map D.int).length = (hs'.flatMap (·.marks)).length := List.length_map _
    infer_instance
    refine ifB (fun hb => ?_) (fun hb => ?_)
    · refine hbk _ _ ⟨hs', _, _, _, _, rfl, hC5, by omega, G', hB5, kg_le hK5 (by omega)⟩
    · have hb := of_decide_eq_false hb
      rw [hml2] at hb
      exact hnx _ _ ⟨hs', _, _, _, rfl, hC5, hl', G', by omega, hB5, hK5⟩
end R
set_option maxRecDepth 100000
set_option maxHeartbeats 1000000
namespace R
open PySem PySem.Spec PyProof.Rows L2 DL
local macro_rules | `(tactic| bv_omega) => `(tactic| first | assumption | exact mset_same)
local macro_rules | `(tactic| symm) => `(tactic| first
  | ((with_reducible show ∃ _, _ = _ ∧ _); refine ⟨_, rfl, ?_⟩)
  | ((with_reducible show _ = _ ∧ _); refine ⟨rfl, ?_⟩)
  | ((with_reducible show ∃ _ _, _ = _ ∧ _ = _ ∧ _); refine ⟨_, _, rfl, rfl, ?_⟩)
  | ((with_reducible show ∃ _ _, _ = _ ∧ _); refine ⟨_, _, rfl, ?_⟩)
  | ((with_reducible show ∃ _ _ _, _ = _ ∧ _); refine ⟨_, _, _, rfl, ?_⟩)
  | ((with_reducible show (_ ≤ _ ∧ _) ∧ _); refine ⟨by omega, ?_⟩)
  | with_reducible refine add_int ?_ | with_reducible refine sub_int ?_
  | with_reducible refine lt_int ?_ | with_reducible refine le_int ?_ | with_reducible refine gt_int ?_ | with_reducible refine ge_int ?_
  | with_reducible refine int_int ?_
  | with_reducible refine eq_int ?_ | with_reducible refine ne_int ?_
  | with_reducible refine len_tup ?_ | with_reducible refine len_lst ?_
  | ((with_reducible show rdIx (.cel _) (.int _) _ _); refine ix_cel (by bv_omega) (by rfl) ?_)
  | ((with_reducible show rdIx (.lst _) (.int _) _ _); refine ix_lst (by rfl) ?_)
  | ((with_reducible show rdIx (.tup _) (.int _) _ _); refine ix_tup (by rfl) ?_)
  | ((with_reducible show rdLen [.cel _] _ _); refine len_cel (by bv_omega) ?_)
  | ((with_reducible show rdMul (.int _) (.int _) _ _); first | refine mul_l (by decide) (by decide) ?_ | refine mul_r (by decide) (by decide) ?_ | refine mul_l (by omega) (by omega) ?_ | refine mul_r (by omega) (by omega) ?_)
  | ((with_reducible show rdDiv (.int _) (.int _) _ _); refine div_int (by first | decide | assumption | omega) (by first | decide | assumption | omega) ?_)
  | ((with_reducible show rdDivmod [.int _, .int _] _ _); refine dm_int (by first | decide | assumption | omega) (by first | decide | assumption | omega) ?_)
  | ((with_reducible show @ite _ (_ = true) _ _ _); first | refine ifYes (by first | with_reducible rfl | exact Bool.not_false | assumption) ?_ | refine ifNo (by first | with_reducible rfl | exact Bool.not_true | assumption) ?_)
  | ((with_reducible show ∃ _, _ ∧ _); refine ⟨_, celL_of (by bv_omega), ?_⟩)
  | ((with_reducible show ∃ _ _ _ _, _ ∧ _ ∧ _ ∧ _ ∧ _); refine ⟨_, _, _, _, rfl, rfl, by bv_omega, by rfl, ?_⟩)
  | ((with_reducible show (_ : Nat) ≤ sizeLine ∧ _); refine ⟨by rw [sizeLine_eq]; exact Nat.le_of_ble_eq_true rfl, ?_⟩))
local macro_rules | `(tactic| infer_instance) => `(tactic| ((repeat symm); try dsimp only))
local macro_rules | `(tactic| ac_rfl) => `(tactic| ((repeat (first | symm | ((with_reducible show rdMod (.int _) (.int _) _ _); refine mod_any (by first | decide | assumption | omega) ?_; intro _ _ _))); try dsimp only))
def sd_taken (C : Addr) : SpD := fun ds M q _ => ∃ hs : List Host, ds = [crewD hs] ∧ hs.length ≤ 24 ∧ (∀ h ∈ hs, h.marks.length ≤ 16) ∧ q (.lst ((hs.flatMap (·.marks)).map D.int)) M
def abcf : List Str := ["a", "b", "c", "d", "e", "f"]
end R
set_option maxRecDepth 100000
namespace R
open PySem PySem.Spec PyProof.Rows L2 DL
abbrev N_taken : List Str := ["_law_hosts_here", "_law_found", "_law_host"]
def db_taken (C : Addr) : DS :=
    (dSeq (dSet 1 (dLst dNil))
    (dSeq (dFor (dIter (dVar 0)) (gdName 2) (dSet 1 (dOp rdAdd (dVar 1) (dCB rdList (dCons (dOp rdIx (dVar 2) (dC (.int 2))) dNil)))))
    (dRet (dVar 1))))
end R
set_option maxRecDepth 100000
set_option maxHeartbeats 1000000
namespace R
open PySem PySem.Spec PyProof.Rows L2 DL
local macro_rules | `(tactic| bv_omega) => `(tactic| first | assumption | exact mset_same)
local macro_rules | `(tactic| symm) => `(tactic| first
  | ((with_reducible show ∃ _, _ = _ ∧ _); refine ⟨_, rfl, ?_⟩)
  | ((with_reducible show _ = _ ∧ _); refine ⟨rfl, ?_⟩)
  | ((with_reducible show ∃ _ _, _ = _ ∧ _ = _ ∧ _); refine ⟨_, _, rfl, rfl, ?_⟩)
  | ((with_reducible show ∃ _ _, _ = _ ∧ _); refine ⟨_, _, rfl, ?_⟩)
  | ((with_reducible show ∃ _ _ _, _ = _ ∧ _); refine ⟨_, _, _, rfl, ?_⟩)
  | ((with_reducible show (_ ≤ _ ∧ _) ∧ _); refine ⟨by omega, ?_⟩)
  | with_reducible refine add_int ?_ | with_reducible refine sub_int ?_
  | with_reducible refine lt_int ?_ | with_reducible refine le_int ?_ | with_reducible refine gt_int ?_ | with_reducible refine ge_int ?_
  | with_reducible refine int_int ?_
  | with_reducible refine eq_int ?_ | with_reducible refine ne_int ?_
  | with_reducible refine len_tup ?_ | with_reducible refine len_lst ?_
  | ((with_reducible show rdIx (.cel _) (.int _) _ _); refine ix_cel (by bv_omega) (by rfl) ?_)
  | ((with_reducible show rdIx (.lst _) (.int _) _ _); refine ix_lst (by rfl) ?_)
  | ((with_reducible show rdIx (.tup _) (.int _) _ _); refine ix_tup (by rfl) ?_)
  | ((with_reducible show rdLen [.cel _] _ _); refine len_cel (by bv_omega) ?_)
  | ((with_reducible show rdMul (.int _) (.int _) _ _); first | refine mul_l (by decide) (by decide) ?_ | refine mul_r (by decide) (by decide) ?_ | refine mul_l (by omega) (by omega) ?_ | refine mul_r (by omega) (by omega) ?_)
  | ((with_reducible show rdDiv (.int _) (.int _) _ _); refine div_int (by first | decide | assumption | omega) (by first | decide | assumption | omega) ?_)
  | ((with_reducible show rdDivmod [.int _, .int _] _ _); refine dm_int (by first | decide | assumption | omega) (by first | decide | assumption | omega) ?_)
  | ((with_reducible show @ite _ (_ = true) _ _ _); first | refine ifYes (by first | with_reducible rfl | exact Bool.not_false | assumption) ?_ | refine ifNo (by first | with_reducible rfl | exact Bool.not_true | assumption) ?_)
  | ((with_reducible show ∃ _, _ ∧ _); refine ⟨_, celL_of (by bv_omega), ?_⟩)
  | ((with_reducible show ∃ _ _ _ _, _ ∧ _ ∧ _ ∧ _ ∧ _); refine ⟨_, _, _, _, rfl, rfl, by bv_omega, by rfl, ?_⟩)
  | ((with_reducible show (_ : Nat) ≤ sizeLine ∧ _); refine ⟨by rw [sizeLine_eq]; exact Nat.le_of_ble_eq_true rfl, ?_⟩))
local macro_rules | `(tactic| infer_instance) => `(tactic| ((repeat symm); try dsimp only))
local macro_rules | `(tactic| ac_rfl) => `(tactic| ((repeat (first | symm | ((with_reducible show rdMod (.int _) (.int _) _ _); refine mod_any (by first | decide | assumption | omega) ?_; intro _ _ _))); try dsimp only))
theorem kp_taken (C : Addr) : Keeps N_taken 1 (sd_taken C) (db_taken C) := by
  rintro ds M q ex hl ⟨hs, rfl, h24, h16, h⟩
  show db_taken C _ [some (crewD hs), none, none] M
  unfold db_taken
  infer_instance
  have hb : ∀ i, ((hs.take i).flatMap (·.marks)).length ≤ 16 * 24 := fun i => by
    have h3 := sum_le (l := hs.take i) (f := fun o : Host => o.marks.length) (b := 16) fun o ho => h16 o (List.mem_of_mem_take ho)
    rw [List.length_flatMap]
    have h4 : (hs.take i).length * 16 ≤ 24 * 16 := Nat.mul_le_mul_right _ (by rw [List.length_take]; omega)
    omega
  refine for_map hostD (xs := hs) (fun i env M' => M' = M ∧ ∃ w2 : Option D, env = [some (crewD hs), some (.lst (((hs.take i).flatMap (·.marks)).map D.int)), w2]) ?_ ?_ _ _ ⟨rfl, _, rfl⟩
  · rintro env M' ⟨rfl, w2, rfl⟩
    refine ⟨rfl, ?_⟩
    infer_instance
    rw [List.take_length]
    exact h
  · rintro i o env M' hx ⟨rfl, w2, rfl⟩ nx hnx
    refine ⟨rfl, ?_⟩
    have hm := h16 o (List.mem_of_getElem? hx)
    have := hb i
    infer_instance
    refine ⟨_, _, rfl, rfl, ?_⟩
    refine add_lst rfl rfl (by rw [List.length_map, List.length_map, sizeLine_eq]; omega) ?_
    rw [← List.map_append]
    have ef : (hs.take i).flatMap (·.marks) ++ o.marks = (hs.take (i + 1)).flatMap (·.marks) := by
      rw [List.take_add_one, hx, List.flatMap_append]
      simp
    rw [ef]
    exact hnx _ _ ⟨rfl, _, rfl⟩
structure Vast (size : Int) (n : Nat) (hs : List Host) : Prop where
  few : hs.length ≤ n
  names : ∀ h ∈ hs, h.name ∈ abcf.take n
  each : ∀ h ∈ hs, HostT size h
  apart : hs.Pairwise Apart
  marks : ∀ h ∈ hs, h.marks.length ≤ 4 ∧ h.rack ∈ (["r1", "r2", "r3"] : List Str)
theorem Vast.more {size : Int} {n : Nat} {hs : List Host} (G : Vast size n hs) : Vast size (n + 1) hs :=
  ⟨Nat.le_succ_of_le G.few, fun h hh => by rw [List.take_add_one]; exact List.mem_append_left _ (G.names h hh), G.each, G.apart, G.marks⟩
end R
set_option maxRecDepth 100000
set_option maxHeartbeats 1000000
namespace R
open PySem PySem.Spec PyProof.Rows L2 DL
local macro_rules | `(tactic| bv_omega) => `(tactic| first | assumption | exact mset_same)
local macro_rules | `(tactic| symm) => `(tactic| first
  | ((with_reducible show ∃ _, _ = _ ∧ _); refine ⟨_, rfl, ?_⟩)
  | ((with_reducible show _ = _ ∧ _); refine ⟨rfl, ?_⟩)
  | ((with_reducible show ∃ _ _, _ = _ ∧ _ = _ ∧ _); refine ⟨_, _, rfl, rfl, ?_⟩)
  | ((with_reducible show ∃ _ _, _ = _ ∧ _); refine ⟨_, _, rfl, ?_⟩)
  | ((with_reducible show ∃ _ _ _, _ = _ ∧ _); refine ⟨_, _, _, rfl, ?_⟩)
  | ((with_reducible show (_ ≤ _ ∧ _) ∧ _); refine ⟨by omega, ?_⟩)
  | with_reducible refine add_int ?_ | with_reducible refine sub_int ?_
  | with_reducible refine lt_int ?_ | with_reducible refine le_int ?_ | with_reducible refine gt_int ?_ | with_reducible refine ge_int ?_
  | with_reducible refine int_int ?_
  | with_reducible refine eq_int ?_ | with_reducible refine ne_int ?_
  | with_reducible refine len_tup ?_ | with_reducible refine len_lst ?_
  | ((with_reducible show rdIx (.cel _) (.int _) _ _); refine ix_cel (by bv_omega) (by rfl) ?_)
  | ((with_reducible show rdIx (.lst _) (.int _) _ _); refine ix_lst (by rfl) ?_)
  | ((with_reducible show rdIx (.tup _) (.int _) _ _); refine ix_tup (by rfl) ?_)
  | ((with_reducible show rdLen [.cel _] _ _); refine len_cel (by bv_omega) ?_)
  | ((with_reducible show rdMul (.int _) (.int _) _ _); first | refine mul_l (by decide) (by decide) ?_ | refine mul_r (by decide) (by decide) ?_ | refine mul_l (by omega) (by omega) ?_ | refine mul_r (by omega) (by omega) ?_)
  | ((with_reducible show rdDiv (.int _) (.int _) _ _); refine div_int (by first | decide | assumption | omega) (by first | decide | assumption | omega) ?_)
  | ((with_reducible show rdDivmod [.int _, .int _] _ _); refine dm_int (by first | decide | assumption | omega) (by first | decide | assumption | omega) ?_)
  | ((with_reducible show @ite _ (_ = true) _ _ _); first | refine ifYes (by first | with_reducible rfl | exact Bool.not_false | assumption) ?_ | refine ifNo (by first | with_reducible rfl | exact Bool.not_true | assumption) ?_)
  | ((with_reducible show ∃ _, _ ∧ _); refine ⟨_, celL_of (by bv_omega), ?_⟩)
  | ((with_reducible show ∃ _ _ _ _, _ ∧ _ ∧ _ ∧ _ ∧ _); refine ⟨_, _, _, _, rfl, rfl, by bv_omega, by rfl, ?_⟩)
  | ((with_reducible show (_ : Nat) ≤ sizeLine ∧ _); refine ⟨by rw [sizeLine_eq]; exact Nat.le_of_ble_eq_true rfl, ?_⟩))
local macro_rules | `(tactic| infer_instance) => `(tactic| ((repeat symm); try dsimp only))
local macro_rules | `(tactic| ac_rfl) => `(tactic| ((repeat (first | symm | ((with_reducible show rdMod (.int _) (.int _) _ _); refine mod_any (by first | decide | assumption | omega) ?_; intro _ _ _))); try dsimp only))
/-- the names of both, ascending -/
structure Both (hs hs' : List Host) (ys : List Str) : Prop where
  nd : ys.Nodup
  mem : ∀ x, x ∈ ys ↔ x ∈ hs.map (·.name) ∨ x ∈ hs'.map (·.name)
  asc : PyProof.Rows.sortedS ys = true
end R
set_option maxRecDepth 100000
namespace R
open PySem PySem.Spec PyProof.Rows L2 DL
end R
set_option maxRecDepth 100000
set_option maxHeartbeats 1000000
namespace R
open PySem PySem.Spec PyProof.Rows L2 DL
local macro_rules | `(tactic| bv_omega) => `(tactic| first | assumption | exact mset_same)
local macro_rules | `(tactic| symm) => `(tactic| first
  | ((with_reducible show ∃ _, _ = _ ∧ _); refine ⟨_, rfl, ?_⟩)
  | ((with_reducible show _ = _ ∧ _); refine ⟨rfl, ?_⟩)
  | ((with_reducible show ∃ _ _, _ = _ ∧ _ = _ ∧ _); refine ⟨_, _, rfl, rfl, ?_⟩)
  | ((with_reducible show ∃ _ _, _ = _ ∧ _); refine ⟨_, _, rfl, ?_⟩)
  | ((with_reducible show ∃ _ _ _, _ = _ ∧ _); refine ⟨_, _, _, rfl, ?_⟩)
  | ((with_reducible show (_ ≤ _ ∧ _) ∧ _); refine ⟨by omega, ?_⟩)
  | with_reducible refine add_int ?_ | with_reducible refine sub_int ?_
  | with_reducible refine lt_int ?_ | with_reducible refine le_int ?_ | with_reducible refine gt_int ?_ | with_reducible refine ge_int ?_
  | with_reducible refine int_int ?_
  | with_reducible refine eq_int ?_ | with_reducible refine ne_int ?_
  | with_reducible refine len_tup ?_ | with_reducible refine len_lst ?_
  | ((with_reducible show rdIx (.cel _) (.int _) _ _); refine ix_cel (by bv_omega) (by rfl) ?_)
  | ((with_reducible show rdIx (.lst _) (.int _) _ _); refine ix_lst (by rfl) ?_)
  | ((with_reducible show rdIx (.tup _) (.int _) _ _); refine ix_tup (by rfl) ?_)
  | ((with_reducible show rdLen [.cel _] _ _); refine len_cel (by bv_omega) ?_)
  | ((with_reducible show rdMul (.int _) (.int _) _ _); first | refine mul_l (by decide) (by decide) ?_ | refine mul_r (by decide) (by decide) ?_ | refine mul_l (by omega) (by omega) ?_ | refine mul_r (by omega) (by omega) ?_)
  | ((with_reducible show rdDiv (.int _) (.int _) _ _); refine div_int (by first | decide | assumption | omega) (by first | decide | assumption | omega) ?_)
  | ((with_reducible show rdDivmod [.int _, .int _] _ _); refine dm_int (by first | decide | assumption | omega) (by first | decide | assumption | omega) ?_)
  | ((with_reducible show @ite _ (_ = true) _ _ _); first | refine ifYes (by first | with_reducible rfl | exact Bool.not_false | assumption) ?_ | refine ifNo (by first | with_reducible rfl | exact Bool.not_true | assumption) ?_)
  | ((with_reducible show ∃ _, _ ∧ _); refine ⟨_, celL_of (by bv_omega), ?_⟩)
  | ((with_reducible show ∃ _ _ _ _, _ ∧ _ ∧ _ ∧ _ ∧ _); refine ⟨_, _, _, _, rfl, rfl, by bv_omega, by rfl, ?_⟩)
  | ((with_reducible show (_ : Nat) ≤ sizeLine ∧ _); refine ⟨by rw [sizeLine_eq]; exact Nat.le_of_ble_eq_true rfl, ?_⟩))
local macro_rules | `(tactic| infer_instance) => `(tactic| ((repeat symm); try dsimp only))
local macro_rules | `(tactic| ac_rfl) => `(tactic| ((repeat (first | symm | ((with_reducible show rdMod (.int _) (.int _) _ _); refine mod_any (by first | decide | assumption | omega) ?_; intro _ _ _))); try dsimp only))
theorem Both.swap {hs hs' : List Host} {ys : List Str} (a : Both hs hs' ys) : Both hs' hs ys := ⟨a.nd, fun x => (a.mem x).trans Or.comm, a.asc⟩
end R
set_option maxRecDepth 100000
set_option maxHeartbeats 1000000
namespace R
open PySem PySem.Spec PyProof.Rows L2 DL
local macro_rules | `(tactic| bv_omega) => `(tactic| first | assumption | exact mset_same)
local macro_rules | `(tactic| symm) => `(tactic| first
  | ((with_reducible show ∃ _, _ = _ ∧ _); refine ⟨_, rfl, ?_⟩)
  | ((with_reducible show _ = _ ∧ _); refine ⟨rfl, ?_⟩)
  | ((with_reducible show ∃ _ _, _ = _ ∧ _ = _ ∧ _); refine ⟨_, _, rfl, rfl, ?_⟩)
  | ((with_reducible show ∃ _ _, _ = _ ∧ _); refine ⟨_, _, rfl, ?_⟩)
  | ((with_reducible show ∃ _ _ _, _ = _ ∧ _); refine ⟨_, _, _, rfl, ?_⟩)
  | ((with_reducible show (_ ≤ _ ∧ _) ∧ _); refine ⟨by omega, ?_⟩)
  | with_reducible refine add_int ?_ | with_reducible refine sub_int ?_
  | with_reducible refine lt_int ?_ | with_reducible refine le_int ?_ | with_reducible refine gt_int ?_ | with_reducible refine ge_int ?_
  | with_reducible refine int_int ?_
  | with_reducible refine eq_int ?_ | with_reducible refine ne_int ?_
  | with_reducible refine len_tup ?_ | with_reducible refine len_lst ?_
  | ((with_reducible show rdIx (.cel _) (.int _) _ _); refine ix_cel (by bv_omega) (by rfl) ?_)
  | ((with_reducible show rdIx (.lst _) (.int _) _ _); refine ix_lst (by rfl) ?_)
  | ((with_reducible show rdIx (.tup _) (.int _) _ _); refine ix_tup (by rfl) ?_)
  | ((with_reducible show rdLen [.cel _] _ _); refine len_cel (by bv_omega) ?_)
  | ((with_reducible show rdMul (.int _) (.int _) _ _); first | refine mul_l (by decide) (by decide) ?_ | refine mul_r (by decide) (by decide) ?_ | refine mul_l (by omega) (by omega) ?_ | refine mul_r (by omega) (by omega) ?_)
  | ((with_reducible show rdDiv (.int _) (.int _) _ _); refine div_int (by first | decide | assumption | omega) (by first | decide | assumption | omega) ?_)
  | ((with_reducible show rdDivmod [.int _, .int _] _ _); refine dm_int (by first | decide | assumption | omega) (by first | decide | assumption | omega) ?_)
  | ((with_reducible show @ite _ (_ = true) _ _ _); first | refine ifYes (by first | with_reducible rfl | exact Bool.not_false | assumption) ?_ | refine ifNo (by first | with_reducible rfl | exact Bool.not_true | assumption) ?_)
  | ((with_reducible show ∃ _, _ ∧ _); refine ⟨_, celL_of (by bv_omega), ?_⟩)
  | ((with_reducible show ∃ _ _ _ _, _ ∧ _ ∧ _ ∧ _ ∧ _); refine ⟨_, _, _, _, rfl, rfl, by bv_omega, by rfl, ?_⟩)
  | ((with_reducible show (_ : Nat) ≤ sizeLine ∧ _); refine ⟨by rw [sizeLine_eq]; exact Nat.le_of_ble_eq_true rfl, ?_⟩))
local macro_rules | `(tactic| infer_instance) => `(tactic| ((repeat symm); try dsimp only))
local macro_rules | `(tactic| ac_rfl) => `(tactic| ((repeat (first | symm | ((with_reducible show rdMod (.int _) (.int _) _ _); refine mod_any (by first | decide | assumption | omega) ?_; intro _ _ _))); try dsimp only))
theorem ord_perm {r : Rule} {hs : List Host} {ns : List Str} : (ordOf r hs ns).Perm ns := by
  unfold ordOf
  split
  · unfold newRacks
    simpa using split_perm (hs := hs) ns [] [] []
  · exact .refl _
theorem walk_less {size p : Int} {hs : List Host} {o : Host} {ns : List Str} (hn : ∀ h ∈ hs, h.name ≠ o.name) (w : WalkOf size p (hs ++ [o]) ns) : WalkOf size p hs (ns.filter fun x => !decide (x = o.name)) := by
  obtain ⟨ws, s1, rfl, p1, a1⟩ := w
  refine ⟨ws.filter fun a => !decide (a.2 = o.name), s1.filter _, ?_, ?_, fun a ha => ?_⟩
  · rw [List.filter_map]; rfl
  · have e : (ws.filter fun a => !decide (a.2 = o.name)).map (·.2) = (ws.map (·.2)).filter fun x => !decide (x = o.name) := by rw [List.filter_map]; rfl
    rw [e]
    refine (p1.filter _).trans ?_
    rw [List.map_append, List.filter_append]
    have e1 : (hs.map (·.name)).filter (fun x => !decide (x = o.name)) = hs.map (·.name) := List.filter_eq_self.mpr fun x hx => by
      obtain ⟨h, hh, rfl⟩ := List.mem_map.mp hx
      simp [hn h hh]
    rw [e1]
    simp
  · obtain ⟨h1, h2⟩ := List.mem_filter.mp ha
    obtain ⟨h, hh, e, wy⟩ := a1 a h1
    rcases List.mem_append.mp hh with hh | hh
    · exact ⟨h, hh, e, wy⟩
    · have : h = o := List.mem_singleton.mp hh
      subst this
      simp [e] at h2
theorem keep_more {size p : Int} {r : Rule} {hs : List Host} {o : Host} {ns ns' : List Str} (hr : RuleOk r) (hc : CrewOk size hs) (hc2 : CrewOk size (hs ++ [o])) (hn : ∀ h ∈ hs, h.name ≠ o.name) (hw : WalkOf size p hs ns) (hw' : WalkOf size p (hs ++ [o]) ns') :
    ns'.filter (fun x => !decide (x = o.name)) = ns ∧ (∀ y ∈ keepersOf r (hs ++ [o]) ns', y ≠ o.name → y ∈ keepersOf r hs ns) ∧ (o.name ∉ keepersOf r (hs ++ [o]) ns' → keepersOf r (hs ++ [o]) ns' = keepersOf r hs ns) ∧ (keepersOf r hs ns).length = min r.wide.toNat hs.length ∧ (keepersOf r (hs ++ [o]) ns').length = min r.wide.toNat (hs.length + 1) ∧ (keepersOf r hs ns).Nodup ∧ (keepersOf r (hs ++ [o]) ns').Nodup ∧ o.name ∉ keepersOf r hs ns := by
  have e1 := walk_uniq hc (walk_less hn hw') hw
  have hnd := walk_nd hc hw
  have hnd' := walk_nd hc2 hw'
  have ho : o.name ∈ ns' := by
    obtain ⟨ws, _, rfl, p1, _⟩ := hw'
    exact p1.mem_iff.mpr (by simp)
  obtain ⟨A, B, rfl⟩ := List.append_of_mem ho
  have hAB : ns = A ++ B := by
    rw [← e1, List.filter_append, List.filter_cons]
    have hd := List.nodup_append.mp hnd'
    have hd2 := List.nodup_cons.mp hd.2.1
    have f1 : A.filter (fun x => !decide (x = o.name)) = A := List.filter_eq_self.mpr fun a ha => by
      have := hd.2.2 a ha o.name List.mem_cons_self
      simp [this]
    have f2 : B.filter (fun x => !decide (x = o.name)) = B := List.filter_eq_self.mpr fun a ha => by
      have : a ≠ o.name := fun e => hd2.1 (e ▸ ha)
      simp [this]
    rw [f1, f2]
    simp
  have hrk : ∀ x ∈ ns, rackOf (hs ++ [o]) x = rackOf hs x := fun x hx => by
    obtain ⟨h, hh, rfl⟩ := List.mem_map.mp (walk_in hw x hx)
    rw [crew_rack hc hh, crew_rack hc2 (List.mem_append.mpr (.inl hh))]
  have hlate : Late o.name (ordOf r hs ns) (ordOf r (hs ++ [o]) (A ++ o.name :: B)) := by
    unfold ordOf
    split
    · have e2 : newRacks (hs ++ [o]) ns = newRacks hs ns := by
        have := split_turn (hs := hs) (hs' := hs ++ [o]) (σ := id) (τ := id) ns [] [] [] hrk fun x hx y hy e => e
        simp only [List.map_id, List.map_nil] at this
        unfold newRacks
        rw [this]
      rw [← e2, hAB]
      exact new_late A B
    · rw [hAB]; exact late_ins _ A B
  obtain ⟨h1, h2⟩ := late_take hlate r.wide.toNat
  have q1 := ord_perm (r := r) (hs := hs) (ns := ns)
  have q2 := ord_perm (r := r) (hs := hs ++ [o]) (ns := A ++ o.name :: B)
  have l1 := walk_len hw
  have l2 := walk_len hw'
  refine ⟨e1, h1, h2, ?_, ?_, ?_, ?_, fun hk => ?_⟩
  · rw [keepers_ord, List.length_take, q1.length_eq, l1]
  · rw [keepers_ord, List.length_take, q2.length_eq, l2, List.length_append, List.length_singleton]
  · exact (q1.nodup_iff.mpr hnd).sublist (List.take_sublist _ _)
  · exact (q2.nodup_iff.mpr hnd').sublist (List.take_sublist _ _)
  · have := walk_in hw _ (q1.mem_iff.mp (List.mem_of_mem_take hk))
    obtain ⟨h, hh, e⟩ := List.mem_map.mp this
    exact hn h hh e
theorem filt_len {α : Type} : ∀ (l : List α) (p : α → Bool), (l.filter p).length + (l.filter fun x => !p x).length = l.length
  | [], _ => rfl
  | x :: l, p => by
    have ih := filt_len l p
    rw [List.filter_cons, List.filter_cons]
    cases p x <;> simp <;> omega
/-- what is gained, what is gone -/
theorem gain_gone {K K' : List Str} {z : Str} {w n : Nat} (h1 : ∀ y ∈ K', y ≠ z → y ∈ K) (h2 : z ∉ K' → K' = K) (l1 : K.length = min w n) (l2 : K'.length = min w (n + 1)) (n1 : K.Nodup) (n2 : K'.Nodup) (hz : z ∉ K) :
    (K'.filter (fun x => !decide (x ∈ K)) = [] ∧ K.filter (fun x => !decide (x ∈ K')) = [] ∧ K' = K ∧ z ∉ K') ∨ (K'.filter (fun x => !decide (x ∈ K)) = [z] ∧ z ∈ K' ∧ ((w ≤ n ∧ ∃ y, K.filter (fun x => !decide (x ∈ K')) = [y]) ∨ (¬ w ≤ n ∧ K.filter (fun x => !decide (x ∈ K')) = []))) := by
  by_cases hk : z ∈ K'
  · right
    have hg : K'.filter (fun x => !decide (x ∈ K)) = [z] := by
      have hm : ∀ y ∈ K'.filter (fun x => !decide (x ∈ K)), y = z := fun y hy => by
        obtain ⟨m1, m2⟩ := List.mem_filter.mp hy
        refine Decidable.byContradiction fun hne => ?_
        have := h1 y m1 hne
        simp [this] at m2
      have hz2 : z ∈ K'.filter (fun x => !decide (x ∈ K)) := List.mem_filter.mpr ⟨hk, by simp [hz]⟩
      have hnd := n2.sublist (List.filter_sublist (p := fun x => !decide (x ∈ K)))
      generalize K'.filter (fun x => !decide (x ∈ K)) = G at hm hz2 hnd
      match G, hm, hz2, hnd with
      | [], _, hz2, _ => cases hz2
      | [a], hm, _, _ => rw [hm a (by simp)]
      | a :: b :: l, hm, _, hnd =>
        have e1 := hm a (by simp)
        have e2 := hm b (by simp)
        rw [e1, e2] at hnd
        simp at hnd
    refine ⟨hg, hk, ?_⟩
    have c1 : (K.filter fun x => decide (x ∈ K')).length + (K.filter fun x => !decide (x ∈ K')).length = K.length := by
      exact filt_len K fun x => decide (x ∈ K')
    have c2 : (K'.filter fun x => decide (x ∈ K)).length + (K'.filter fun x => !decide (x ∈ K)).length = K'.length := by
      exact filt_len K' fun x => decide (x ∈ K)
    have c3 : (K.filter fun x => decide (x ∈ K')).length = (K'.filter fun x => decide (x ∈ K)).length := by
      have a1 := nodup_len (n1.sublist (List.filter_sublist (p := fun x => decide (x ∈ K')))) (ys := K'.filter fun x => decide (x ∈ K)) fun x hx => by
        obtain ⟨m1, m2⟩ := List.mem_filter.mp hx
        exact List.mem_filter.mpr ⟨of_decide_eq_true m2, decide_eq_true m1⟩
      have a2 := nodup_len (n2.sublist (List.filter_sublist (p := fun x => decide (x ∈ K)))) (ys := K.filter fun x => decide (x ∈ K')) fun x hx => by
        obtain ⟨m1, m2⟩ := List.mem_filter.mp hx
        exact List.mem_filter.mpr ⟨of_decide_eq_true m2, decide_eq_true m1⟩
      omega
    rw [hg, List.length_singleton] at c2
    by_cases hwn : w ≤ n
    · left
      refine ⟨hwn, List.length_eq_one_iff.mp ?_⟩
      omega
    · right
      exact ⟨hwn, List.length_eq_zero_iff.mp (by omega)⟩
  · left
    have e := h2 hk
    subst e
    have : K'.filter (fun x => !decide (x ∈ K')) = [] := List.filter_eq_nil_iff.mpr fun x hx => by simp [hx]
    exact ⟨this, this, rfl, hk⟩
end R
set_option maxRecDepth 100000
set_option maxHeartbeats 1000000
namespace R
open PySem PySem.Spec PyProof.Rows L2 DL
local macro_rules | `(tactic| bv_omega) => `(tactic| first | assumption | exact mset_same)
local macro_rules | `(tactic| symm) => `(tactic| first
  | ((with_reducible show ∃ _, _ = _ ∧ _); refine ⟨_, rfl, ?_⟩)
  | ((with_reducible show _ = _ ∧ _); refine ⟨rfl, ?_⟩)
  | ((with_reducible show ∃ _ _, _ = _ ∧ _ = _ ∧ _); refine ⟨_, _, rfl, rfl, ?_⟩)
  | ((with_reducible show ∃ _ _, _ = _ ∧ _); refine ⟨_, _, rfl, ?_⟩)
  | ((with_reducible show ∃ _ _ _, _ = _ ∧ _); refine ⟨_, _, _, rfl, ?_⟩)
  | ((with_reducible show (_ ≤ _ ∧ _) ∧ _); refine ⟨by omega, ?_⟩)
  | with_reducible refine add_int ?_ | with_reducible refine sub_int ?_
  | with_reducible refine lt_int ?_ | with_reducible refine le_int ?_ | with_reducible refine gt_int ?_ | with_reducible refine ge_int ?_
  | with_reducible refine int_int ?_
  | with_reducible refine eq_int ?_ | with_reducible refine ne_int ?_
  | with_reducible refine len_tup ?_ | with_reducible refine len_lst ?_
  | ((with_reducible show rdIx (.cel _) (.int _) _ _); refine ix_cel (by bv_omega) (by rfl) ?_)
  | ((with_reducible show rdIx (.lst _) (.int _) _ _); refine ix_lst (by rfl) ?_)
  | ((with_reducible show rdIx (.tup _) (.int _) _ _); refine ix_tup (by rfl) ?_)
  | ((with_reducible show rdLen [.cel _] _ _); refine len_cel (by bv_omega) ?_)
  | ((with_reducible show rdMul (.int _) (.int _) _ _); first | refine mul_l (by decide) (by decide) ?_ | refine mul_r (by decide) (by decide) ?_ | refine mul_l (by omega) (by omega) ?_ | refine mul_r (by omega) (by omega) ?_)
  | ((with_reducible show rdDiv (.int _) (.int _) _ _); refine div_int (by first | decide | assumption | omega) (by first | decide | assumption | omega) ?_)
  | ((with_reducible show rdDivmod [.int _, .int _] _ _); refine dm_int (by first | decide | assumption | omega) (by first | decide | assumption | omega) ?_)
  | ((with_reducible show @ite _ (_ = true) _ _ _); first | refine ifYes (by first | with_reducible rfl | exact Bool.not_false | assumption) ?_ | refine ifNo (by first | with_reducible rfl | exact Bool.not_true | assumption) ?_)
  | ((with_reducible show ∃ _, _ ∧ _); refine ⟨_, celL_of (by bv_omega), ?_⟩)
  | ((with_reducible show ∃ _ _ _ _, _ ∧ _ ∧ _ ∧ _ ∧ _); refine ⟨_, _, _, _, rfl, rfl, by bv_omega, by rfl, ?_⟩)
  | ((with_reducible show (_ : Nat) ≤ sizeLine ∧ _); refine ⟨by rw [sizeLine_eq]; exact Nat.le_of_ble_eq_true rfl, ?_⟩))
local macro_rules | `(tactic| infer_instance) => `(tactic| ((repeat symm); try dsimp only))
local macro_rules | `(tactic| ac_rfl) => `(tactic| ((repeat (first | symm | ((with_reducible show rdMod (.int _) (.int _) _ _); refine mod_any (by first | decide | assumption | omega) ?_; intro _ _ _))); try dsimp only))
theorem join_keep {size p : Int} {r : Rule} {hs : List Host} {o : Host} (hr : RuleOk r) (hc : CrewOk size hs) (hc2 : CrewOk size (hs ++ [o])) (hn : ∀ h ∈ hs, h.name ≠ o.name) :
    let K := keepF size r hs p; let K' := keepF size r (hs ++ [o]) p;
    ((K'.filter (fun x => !decide (x ∈ K)) = [] ∧ K.filter (fun x => !decide (x ∈ K')) = [] ∧ K' = K ∧ o.name ∉ K') ∨ (K'.filter (fun x => !decide (x ∈ K)) = [o.name] ∧ o.name ∈ K' ∧ ((r.wide.toNat ≤ hs.length ∧ ∃ y, K.filter (fun x => !decide (x ∈ K')) = [y]) ∨ (¬ r.wide.toNat ≤ hs.length ∧ K.filter (fun x => !decide (x ∈ K')) = [])))) ∧ K.Nodup ∧ K'.Nodup ∧ o.name ∉ K := by
  obtain ⟨_, h1, h2, l1, l2, n1, n2, hz⟩ := keep_more hr hc hc2 hn (walkF_ok hc p) (walkF_ok hc2 p)
  exact ⟨gain_gone h1 h2 l1 l2 n1 n2 hz, n1, n2, hz⟩
theorem keepF_perm {size p : Int} {r : Rule} {hs gs : List Host} (hc : CrewOk size hs) (hg : CrewOk size gs) (hp : gs.Perm hs) : keepF size r gs p = keepF size r hs p := by
  have ew : walkF size gs p = walkF size hs p := (walk_eq hg (walk_perm hp (walkF_ok hc p))).symm
  unfold keepF
  rw [ew]
  have := keepers_turn (r := r) (r' := r) (hs := hs) (hs' := gs) (ns := walkF size hs p) (σ := id) (τ := id) rfl rfl (fun x hx => rack_perm hc hg hp (walkF_in hc x hx)) (fun x _ y _ e => e)
  rwa [List.map_id, List.map_id] at this
end R
set_option maxRecDepth 100000
set_option maxHeartbeats 4000000
namespace DL
open PySem PySem.Spec PyProof.Rows L2 SrtO
end DL
set_option maxRecDepth 100000
set_option maxHeartbeats 1000000
namespace R
open PySem PySem.Spec PyProof.Rows L2 DL
local macro_rules | `(tactic| bv_omega) => `(tactic| first | assumption | exact mset_same)
local macro_rules | `(tactic| symm) => `(tactic| first
  | ((with_reducible show ∃ _, _ = _ ∧ _); refine ⟨_, rfl, ?_⟩)
  | ((with_reducible show _ = _ ∧ _); refine ⟨rfl, ?_⟩)
  | ((with_reducible show ∃ _ _, _ = _ ∧ _ = _ ∧ _); refine ⟨_, _, rfl, rfl, ?_⟩)
  | ((with_reducible show ∃ _ _, _ = _ ∧ _); refine ⟨_, _, rfl, ?_⟩)
  | ((with_reducible show ∃ _ _ _, _ = _ ∧ _); refine ⟨_, _, _, rfl, ?_⟩)
  | ((with_reducible show (_ ≤ _ ∧ _) ∧ _); refine ⟨by omega, ?_⟩)
  | with_reducible refine add_int ?_ | with_reducible refine sub_int ?_
  | with_reducible refine lt_int ?_ | with_reducible refine le_int ?_ | with_reducible refine gt_int ?_ | with_reducible refine ge_int ?_
  | with_reducible refine int_int ?_
  | with_reducible refine eq_int ?_ | with_reducible refine ne_int ?_
  | with_reducible refine len_tup ?_ | with_reducible refine len_lst ?_
  | ((with_reducible show rdIx (.cel _) (.int _) _ _); refine ix_cel (by bv_omega) (by rfl) ?_)
  | ((with_reducible show rdIx (.lst _) (.int _) _ _); refine ix_lst (by rfl) ?_)
  | ((with_reducible show rdIx (.tup _) (.int _) _ _); refine ix_tup (by rfl) ?_)
  | ((with_reducible show rdLen [.cel _] _ _); refine len_cel (by bv_omega) ?_)
  | ((with_reducible show rdMul (.int _) (.int _) _ _); first | refine mul_l (by decide) (by decide) ?_ | refine mul_r (by decide) (by decide) ?_ | refine mul_l (by omega) (by omega) ?_ | refine mul_r (by omega) (by omega) ?_)
  | ((with_reducible show rdDiv (.int _) (.int _) _ _); refine div_int (by first | decide | assumption | omega) (by first | decide | assumption | omega) ?_)
  | ((with_reducible show rdDivmod [.int _, .int _] _ _); refine dm_int (by first | decide | assumption | omega) (by first | decide | assumption | omega) ?_)
  | ((with_reducible show @ite _ (_ = true) _ _ _); first | refine ifYes (by first | with_reducible rfl | exact Bool.not_false | assumption) ?_ | refine ifNo (by first | with_reducible rfl | exact Bool.not_true | assumption) ?_)
  | ((with_reducible show ∃ _, _ ∧ _); refine ⟨_, celL_of (by bv_omega), ?_⟩)
  | ((with_reducible show ∃ _ _ _ _, _ ∧ _ ∧ _ ∧ _ ∧ _); refine ⟨_, _, _, _, rfl, rfl, by bv_omega, by rfl, ?_⟩)
  | ((with_reducible show (_ : Nat) ≤ sizeLine ∧ _); refine ⟨by rw [sizeLine_eq]; exact Nat.le_of_ble_eq_true rfl, ?_⟩))
local macro_rules | `(tactic| infer_instance) => `(tactic| ((repeat symm); try dsimp only))
local macro_rules | `(tactic| ac_rfl) => `(tactic| ((repeat (first | symm | ((with_reducible show rdMod (.int _) (.int _) _ _); refine mod_any (by first | decide | assumption | omega) ?_; intro _ _ _))); try dsimp only))
end R
set_option maxRecDepth 100000
namespace R
open PySem PySem.Spec PyProof.Rows L2 DL
end R
set_option maxRecDepth 100000
set_option maxHeartbeats 1000000
namespace R
open PySem PySem.Spec PyProof.Rows L2 DL
local macro_rules | `(tactic| bv_omega) => `(tactic| first | assumption | exact mset_same)
local macro_rules | `(tactic| symm) => `(tactic| first
  | ((with_reducible show ∃ _, _ = _ ∧ _); refine ⟨_, rfl, ?_⟩)
  | ((with_reducible show _ = _ ∧ _); refine ⟨rfl, ?_⟩)
  | ((with_reducible show ∃ _ _, _ = _ ∧ _ = _ ∧ _); refine ⟨_, _, rfl, rfl, ?_⟩)
  | ((with_reducible show ∃ _ _, _ = _ ∧ _); refine ⟨_, _, rfl, ?_⟩)
  | ((with_reducible show ∃ _ _ _, _ = _ ∧ _); refine ⟨_, _, _, rfl, ?_⟩)
  | ((with_reducible show (_ ≤ _ ∧ _) ∧ _); refine ⟨by omega, ?_⟩)
  | with_reducible refine add_int ?_ | with_reducible refine sub_int ?_
  | with_reducible refine lt_int ?_ | with_reducible refine le_int ?_ | with_reducible refine gt_int ?_ | with_reducible refine ge_int ?_
  | with_reducible refine int_int ?_
  | with_reducible refine eq_int ?_ | with_reducible refine ne_int ?_
  | with_reducible refine len_tup ?_ | with_reducible refine len_lst ?_
  | ((with_reducible show rdIx (.cel _) (.int _) _ _); refine ix_cel (by bv_omega) (by rfl) ?_)
  | ((with_reducible show rdIx (.lst _) (.int _) _ _); refine ix_lst (by rfl) ?_)
  | ((with_reducible show rdIx (.tup _) (.int _) _ _); refine ix_tup (by rfl) ?_)
  | ((with_reducible show rdLen [.cel _] _ _); refine len_cel (by bv_omega) ?_)
  | ((with_reducible show rdMul (.int _) (.int _) _ _); first | refine mul_l (by decide) (by decide) ?_ | refine mul_r (by decide) (by decide) ?_ | refine mul_l (by omega) (by omega) ?_ | refine mul_r (by omega) (by omega) ?_)
  | ((with_reducible show rdDiv (.int _) (.int _) _ _); refine div_int (by first | decide | assumption | omega) (by first | decide | assumption | omega) ?_)
  | ((with_reducible show rdDivmod [.int _, .int _] _ _); refine dm_int (by first | decide | assumption | omega) (by first | decide | assumption | omega) ?_)
  | ((with_reducible show @ite _ (_ = true) _ _ _); first | refine ifYes (by first | with_reducible rfl | exact Bool.not_false | assumption) ?_ | refine ifNo (by first | with_reducible rfl | exact Bool.not_true | assumption) ?_)
  | ((with_reducible show ∃ _, _ ∧ _); refine ⟨_, celL_of (by bv_omega), ?_⟩)
  | ((with_reducible show ∃ _ _ _ _, _ ∧ _ ∧ _ ∧ _ ∧ _); refine ⟨_, _, _, _, rfl, rfl, by bv_omega, by rfl, ?_⟩)
  | ((with_reducible show (_ : Nat) ≤ sizeLine ∧ _); refine ⟨by rw [sizeLine_eq]; exact Nat.le_of_ble_eq_true rfl, ?_⟩))
local macro_rules | `(tactic| infer_instance) => `(tactic| ((repeat symm); try dsimp only))
local macro_rules | `(tactic| ac_rfl) => `(tactic| ((repeat (first | symm | ((with_reducible show rdMod (.int _) (.int _) _ _); refine mod_any (by first | decide | assumption | omega) ?_; intro _ _ _))); try dsimp only))
end R
set_option maxRecDepth 100000
set_option maxHeartbeats 1000000
namespace R
open PySem PySem.Spec PyProof.Rows L2 DL
local macro_rules | `(tactic| bv_omega) => `(tactic| first | assumption | exact mset_same)
local macro_rules | `(tactic| symm) => `(tactic| first
  | ((with_reducible show ∃ _, _ = _ ∧ _); refine ⟨_, rfl, ?_⟩)
  | ((with_reducible show _ = _ ∧ _); refine ⟨rfl, ?_⟩)
  | ((with_reducible show ∃ _ _, _ = _ ∧ _ = _ ∧ _); refine ⟨_, _, rfl, rfl, ?_⟩)
  | ((with_reducible show ∃ _ _, _ = _ ∧ _); refine ⟨_, _, rfl, ?_⟩)
  | ((with_reducible show ∃ _ _ _, _ = _ ∧ _); refine ⟨_, _, _, rfl, ?_⟩)
  | ((with_reducible show (_ ≤ _ ∧ _) ∧ _); refine ⟨by omega, ?_⟩)
  | with_reducible refine add_int ?_ | with_reducible refine sub_int ?_
  | with_reducible refine lt_int ?_ | with_reducible refine le_int ?_ | with_reducible refine gt_int ?_ | with_reducible refine ge_int ?_
  | with_reducible refine int_int ?_
  | with_reducible refine eq_int ?_ | with_reducible refine ne_int ?_
  | with_reducible refine len_tup ?_ | with_reducible refine len_lst ?_
  | ((with_reducible show rdIx (.cel _) (.int _) _ _); refine ix_cel (by bv_omega) (by rfl) ?_)
  | ((with_reducible show rdIx (.lst _) (.int _) _ _); refine ix_lst (by rfl) ?_)
  | ((with_reducible show rdIx (.tup _) (.int _) _ _); refine ix_tup (by rfl) ?_)
  | ((with_reducible show rdLen [.cel _] _ _); refine len_cel (by bv_omega) ?_)
  | ((with_reducible show rdMul (.int _) (.int _) _ _); first | refine mul_l (by decide) (by decide) ?_ | refine mul_r (by decide) (by decide) ?_ | refine mul_l (by omega) (by omega) ?_ | refine mul_r (by omega) (by omega) ?_)
  | ((with_reducible show rdDiv (.int _) (.int _) _ _); refine div_int (by first | decide | assumption | omega) (by first | decide | assumption | omega) ?_)
  | ((with_reducible show rdDivmod [.int _, .int _] _ _); refine dm_int (by first | decide | assumption | omega) (by first | decide | assumption | omega) ?_)
  | ((with_reducible show @ite _ (_ = true) _ _ _); first | refine ifYes (by first | with_reducible rfl | exact Bool.not_false | assumption) ?_ | refine ifNo (by first | with_reducible rfl | exact Bool.not_true | assumption) ?_)
  | ((with_reducible show ∃ _, _ ∧ _); refine ⟨_, celL_of (by bv_omega), ?_⟩)
  | ((with_reducible show ∃ _ _ _ _, _ ∧ _ ∧ _ ∧ _ ∧ _); refine ⟨_, _, _, _, rfl, rfl, by bv_omega, by rfl, ?_⟩)
  | ((with_reducible show (_ : Nat) ≤ sizeLine ∧ _); refine ⟨by rw [sizeLine_eq]; exact Nat.le_of_ble_eq_true rfl, ?_⟩))
local macro_rules | `(tactic| infer_instance) => `(tactic| ((repeat symm); try dsimp only))
local macro_rules | `(tactic| ac_rfl) => `(tactic| ((repeat (first | symm | ((with_reducible show rdMod (.int _) (.int _) _ _); refine mod_any (by first | decide | assumption | omega) ?_; intro _ _ _))); try dsimp only))
end R
set_option maxRecDepth 100000
set_option maxHeartbeats 1000000
namespace R
open PySem PySem.Spec PyProof.Rows L2 DL
local macro_rules | `(tactic| bv_omega) => `(tactic| first | assumption | exact mset_same)
local macro_rules | `(tactic| symm) => `(tactic| first
  | ((with_reducible show ∃ _, _ = _ ∧ _); refine ⟨_, rfl, ?_⟩)
  | ((with_reducible show _ = _ ∧ _); refine ⟨rfl, ?_⟩)
  | ((with_reducible show ∃ _ _, _ = _ ∧ _ = _ ∧ _); refine ⟨_, _, rfl, rfl, ?_⟩)
  | ((with_reducible show ∃ _ _, _ = _ ∧ _); refine ⟨_, _, rfl, ?_⟩)
  | ((with_reducible show ∃ _ _ _, _ = _ ∧ _); refine ⟨_, _, _, rfl, ?_⟩)
  | ((with_reducible show (_ ≤ _ ∧ _) ∧ _); refine ⟨by omega, ?_⟩)
  | with_reducible refine add_int ?_ | with_reducible refine sub_int ?_
  | with_reducible refine lt_int ?_ | with_reducible refine le_int ?_ | with_reducible refine gt_int ?_ | with_reducible refine ge_int ?_
  | with_reducible refine int_int ?_
  | with_reducible refine eq_int ?_ | with_reducible refine ne_int ?_
  | with_reducible refine len_tup ?_ | with_reducible refine len_lst ?_
  | ((with_reducible show rdIx (.cel _) (.int _) _ _); refine ix_cel (by bv_omega) (by rfl) ?_)
  | ((with_reducible show rdIx (.lst _) (.int _) _ _); refine ix_lst (by rfl) ?_)
  | ((with_reducible show rdIx (.tup _) (.int _) _ _); refine ix_tup (by rfl) ?_)
  | ((with_reducible show rdLen [.cel _] _ _); refine len_cel (by bv_omega) ?_)
  | ((with_reducible show rdMul (.int _) (.int _) _ _); first | refine mul_l (by decide) (by decide) ?_ | refine mul_r (by decide) (by decide) ?_ | refine mul_l (by omega) (by omega) ?_ | refine mul_r (by omega) (by omega) ?_)
  | ((with_reducible show rdDiv (.int _) (.int _) _ _); refine div_int (by first | decide | assumption | omega) (by first | decide | assumption | omega) ?_)
  | ((with_reducible show rdDivmod [.int _, .int _] _ _); refine dm_int (by first | decide | assumption | omega) (by first | decide | assumption | omega) ?_)
  | ((with_reducible show @ite _ (_ = true) _ _ _); first | refine ifYes (by first | with_reducible rfl | exact Bool.not_false | assumption) ?_ | refine ifNo (by first | with_reducible rfl | exact Bool.not_true | assumption) ?_)
  | ((with_reducible show ∃ _, _ ∧ _); refine ⟨_, celL_of (by bv_omega), ?_⟩)
  | ((with_reducible show ∃ _ _ _ _, _ ∧ _ ∧ _ ∧ _ ∧ _); refine ⟨_, _, _, _, rfl, rfl, by bv_omega, by rfl, ?_⟩)
  | ((with_reducible show (_ : Nat) ≤ sizeLine ∧ _); refine ⟨by rw [sizeLine_eq]; exact Nat.le_of_ble_eq_true rfl, ?_⟩))
local macro_rules | `(tactic| infer_instance) => `(tactic| ((repeat symm); try dsimp only))
local macro_rules | `(tactic| ac_rfl) => `(tactic| ((repeat (first | symm | ((with_reducible show rdMod (.int _) (.int _) _ _); refine mod_any (by first | decide | assumption | omega) ?_; intro _ _ _))); try dsimp only))
inductive Linked (size : Int) : Int → List (Int × Int × Int) → Int → Prop
  | nil (p : Int) : Linked size p [] p
  | cons {p m mk e : Int} {l : List (Int × Int × Int)} : 1 ≤ m → m ≤ size → (p + m) % size = mk % size → Linked size mk l e → Linked size p (((p + 1) % size, m, mk) :: l) e
theorem Linked.app {size p q e : Int} {a b : List (Int × Int × Int)} (h : Linked size p a q) (h' : Linked size q b e) : Linked size p (a ++ b) e := by
  induction h with
  | nil => exact h'
  | cons h1 h2 h3 _ ih => exact .cons h1 h2 h3 (ih h')
theorem Linked.split {size p e : Int} {l : List (Int × Int × Int)} (h : Linked size p l e) : ∀ k, ∃ q, Linked size p (l.take k) q ∧ Linked size q (l.drop k) e := by
  induction h with
  | nil p => intro k; exact ⟨p, by rw [List.take_nil]; exact .nil p, by rw [List.drop_nil]; exact .nil p⟩
  | cons h1 h2 h3 h4 ih =>
    intro k
    cases k with
    | zero => exact ⟨_, .nil _, .cons h1 h2 h3 h4⟩
    | succ k =>
      obtain ⟨q, a, b⟩ := ih k
      exact ⟨q, .cons h1 h2 h3 a, b⟩
end R
set_option maxRecDepth 100000
set_option maxHeartbeats 1000000
namespace R
open PySem PySem.Spec PyProof.Rows L2 DL
local macro_rules | `(tactic| bv_omega) => `(tactic| first | assumption | exact mset_same)
local macro_rules | `(tactic| symm) => `(tactic| first
  | ((with_reducible show ∃ _, _ = _ ∧ _); refine ⟨_, rfl, ?_⟩)
  | ((with_reducible show _ = _ ∧ _); refine ⟨rfl, ?_⟩)
  | ((with_reducible show ∃ _ _, _ = _ ∧ _ = _ ∧ _); refine ⟨_, _, rfl, rfl, ?_⟩)
  | ((with_reducible show ∃ _ _, _ = _ ∧ _); refine ⟨_, _, rfl, ?_⟩)
  | ((with_reducible show ∃ _ _ _, _ = _ ∧ _); refine ⟨_, _, _, rfl, ?_⟩)
  | ((with_reducible show (_ ≤ _ ∧ _) ∧ _); refine ⟨by omega, ?_⟩)
  | with_reducible refine add_int ?_ | with_reducible refine sub_int ?_
  | with_reducible refine lt_int ?_ | with_reducible refine le_int ?_ | with_reducible refine gt_int ?_ | with_reducible refine ge_int ?_
  | with_reducible refine int_int ?_
  | with_reducible refine eq_int ?_ | with_reducible refine ne_int ?_
  | with_reducible refine len_tup ?_ | with_reducible refine len_lst ?_
  | ((with_reducible show rdIx (.cel _) (.int _) _ _); refine ix_cel (by bv_omega) (by rfl) ?_)
  | ((with_reducible show rdIx (.lst _) (.int _) _ _); refine ix_lst (by rfl) ?_)
  | ((with_reducible show rdIx (.tup _) (.int _) _ _); refine ix_tup (by rfl) ?_)
  | ((with_reducible show rdLen [.cel _] _ _); refine len_cel (by bv_omega) ?_)
  | ((with_reducible show rdMul (.int _) (.int _) _ _); first | refine mul_l (by decide) (by decide) ?_ | refine mul_r (by decide) (by decide) ?_ | refine mul_l (by omega) (by omega) ?_ | refine mul_r (by omega) (by omega) ?_)
  | ((with_reducible show rdDiv (.int _) (.int _) _ _); refine div_int (by first | decide | assumption | omega) (by first | decide | assumption | omega) ?_)
  | ((with_reducible show rdDivmod [.int _, .int _] _ _); refine dm_int (by first | decide | assumption | omega) (by first | decide | assumption | omega) ?_)
  | ((with_reducible show @ite _ (_ = true) _ _ _); first | refine ifYes (by first | with_reducible rfl | exact Bool.not_false | assumption) ?_ | refine ifNo (by first | with_reducible rfl | exact Bool.not_true | assumption) ?_)
  | ((with_reducible show ∃ _, _ ∧ _); refine ⟨_, celL_of (by bv_omega), ?_⟩)
  | ((with_reducible show ∃ _ _ _ _, _ ∧ _ ∧ _ ∧ _ ∧ _); refine ⟨_, _, _, _, rfl, rfl, by bv_omega, by rfl, ?_⟩)
  | ((with_reducible show (_ : Nat) ≤ sizeLine ∧ _); refine ⟨by rw [sizeLine_eq]; exact Nat.le_of_ble_eq_true rfl, ?_⟩))
local macro_rules | `(tactic| infer_instance) => `(tactic| ((repeat symm); try dsimp only))
local macro_rules | `(tactic| ac_rfl) => `(tactic| ((repeat (first | symm | ((with_reducible show rdMod (.int _) (.int _) _ _); refine mod_any (by first | decide | assumption | omega) ?_; intro _ _ _))); try dsimp only))
end R
set_option maxRecDepth 100000
set_option maxHeartbeats 1000000
namespace R
open PySem PySem.Spec PyProof.Rows L2 DL
local macro_rules | `(tactic| bv_omega) => `(tactic| first | assumption | exact mset_same)
local macro_rules | `(tactic| symm) => `(tactic| first
  | ((with_reducible show ∃ _, _ = _ ∧ _); refine ⟨_, rfl, ?_⟩)
  | ((with_reducible show _ = _ ∧ _); refine ⟨rfl, ?_⟩)
  | ((with_reducible show ∃ _ _, _ = _ ∧ _ = _ ∧ _); refine ⟨_, _, rfl, rfl, ?_⟩)
  | ((with_reducible show ∃ _ _, _ = _ ∧ _); refine ⟨_, _, rfl, ?_⟩)
  | ((with_reducible show ∃ _ _ _, _ = _ ∧ _); refine ⟨_, _, _, rfl, ?_⟩)
  | ((with_reducible show (_ ≤ _ ∧ _) ∧ _); refine ⟨by omega, ?_⟩)
  | with_reducible refine add_int ?_ | with_reducible refine sub_int ?_
  | with_reducible refine lt_int ?_ | with_reducible refine le_int ?_ | with_reducible refine gt_int ?_ | with_reducible refine ge_int ?_
  | with_reducible refine int_int ?_
  | with_reducible refine eq_int ?_ | with_reducible refine ne_int ?_
  | with_reducible refine len_tup ?_ | with_reducible refine len_lst ?_
  | ((with_reducible show rdIx (.cel _) (.int _) _ _); refine ix_cel (by bv_omega) (by rfl) ?_)
  | ((with_reducible show rdIx (.lst _) (.int _) _ _); refine ix_lst (by rfl) ?_)
  | ((with_reducible show rdIx (.tup _) (.int _) _ _); refine ix_tup (by rfl) ?_)
  | ((with_reducible show rdLen [.cel _] _ _); refine len_cel (by bv_omega) ?_)
  | ((with_reducible show rdMul (.int _) (.int _) _ _); first | refine mul_l (by decide) (by decide) ?_ | refine mul_r (by decide) (by decide) ?_ | refine mul_l (by omega) (by omega) ?_ | refine mul_r (by omega) (by omega) ?_)
  | ((with_reducible show rdDiv (.int _) (.int _) _ _); refine div_int (by first | decide | assumption | omega) (by first | decide | assumption | omega) ?_)
  | ((with_reducible show rdDivmod [.int _, .int _] _ _); refine dm_int (by first | decide | assumption | omega) (by first | decide | assumption | omega) ?_)
  | ((with_reducible show @ite _ (_ = true) _ _ _); first | refine ifYes (by first | with_reducible rfl | exact Bool.not_false | assumption) ?_ | refine ifNo (by first | with_reducible rfl | exact Bool.not_true | assumption) ?_)
  | ((with_reducible show ∃ _, _ ∧ _); refine ⟨_, celL_of (by bv_omega), ?_⟩)
  | ((with_reducible show ∃ _ _ _ _, _ ∧ _ ∧ _ ∧ _ ∧ _); refine ⟨_, _, _, _, rfl, rfl, by bv_omega, by rfl, ?_⟩)
  | ((with_reducible show (_ : Nat) ≤ sizeLine ∧ _); refine ⟨by rw [sizeLine_eq]; exact Nat.le_of_ble_eq_true rfl, ?_⟩))
local macro_rules | `(tactic| infer_instance) => `(tactic| ((repeat symm); try dsimp only))
local macro_rules | `(tactic| ac_rfl) => `(tactic| ((repeat (first | symm | ((with_reducible show rdMod (.int _) (.int _) _ _); refine mod_any (by first | decide | assumption | omega) ?_; intro _ _ _))); try dsimp only))
/-- arcs in their order that do not meet and are not beside one another -/
structure ArcsOk (size : Int) (ps : List (Int × Int)) : Prop where
  asc : ps.Pairwise (fun a b => a.1 < b.1)
  each : ∀ a ∈ ps, 0 ≤ a.1 ∧ a.1 < size ∧ 1 ≤ a.2 ∧ a.2 < size
  gap : ∀ a ∈ ps, ∀ b ∈ ps, a ≠ b → (b.1 - a.1 - a.2) % size ≠ 0
  all : (ps.map (·.2)).sum < size
theorem mod_same {size a b : Int} (h : a % size = b % size) (h1 : a - b < size) (h2 : b - a < size) : a = b := by
  have e := Int.emod_emod_of_dvd a (Int.dvd_refl size)
  have h3 : (a - b) % size = 0 := by rw [Int.sub_emod, h, Int.sub_self, Int.zero_emod]
  obtain ⟨k, hk⟩ := Int.dvd_of_emod_eq_zero h3
  have : k = 0 := by
    rcases Int.lt_trichotomy k 0 with z | z | z
    · exfalso
      have : size * k ≤ size * (-1) := Int.mul_le_mul_of_nonneg_left (by omega) (by omega)
      omega
    · exact z
    · exfalso
      have : size * 1 ≤ size * k := Int.mul_le_mul_of_nonneg_left (by omega) (by omega)
      omega
  rw [this, Int.mul_zero] at hk
  omega
end R
set_option maxRecDepth 100000
set_option maxHeartbeats 1000000
namespace R
open PySem PySem.Spec PyProof.Rows L2 DL
local macro_rules | `(tactic| bv_omega) => `(tactic| first | assumption | exact mset_same)
local macro_rules | `(tactic| symm) => `(tactic| first
  | ((with_reducible show ∃ _, _ = _ ∧ _); refine ⟨_, rfl, ?_⟩)
  | ((with_reducible show _ = _ ∧ _); refine ⟨rfl, ?_⟩)
  | ((with_reducible show ∃ _ _, _ = _ ∧ _ = _ ∧ _); refine ⟨_, _, rfl, rfl, ?_⟩)
  | ((with_reducible show ∃ _ _, _ = _ ∧ _); refine ⟨_, _, rfl, ?_⟩)
  | ((with_reducible show ∃ _ _ _, _ = _ ∧ _); refine ⟨_, _, _, rfl, ?_⟩)
  | ((with_reducible show (_ ≤ _ ∧ _) ∧ _); refine ⟨by omega, ?_⟩)
  | with_reducible refine add_int ?_ | with_reducible refine sub_int ?_
  | with_reducible refine lt_int ?_ | with_reducible refine le_int ?_ | with_reducible refine gt_int ?_ | with_reducible refine ge_int ?_
  | with_reducible refine int_int ?_
  | with_reducible refine eq_int ?_ | with_reducible refine ne_int ?_
  | with_reducible refine len_tup ?_ | with_reducible refine len_lst ?_
  | ((with_reducible show rdIx (.cel _) (.int _) _ _); refine ix_cel (by bv_omega) (by rfl) ?_)
  | ((with_reducible show rdIx (.lst _) (.int _) _ _); refine ix_lst (by rfl) ?_)
  | ((with_reducible show rdIx (.tup _) (.int _) _ _); refine ix_tup (by rfl) ?_)
  | ((with_reducible show rdLen [.cel _] _ _); refine len_cel (by bv_omega) ?_)
  | ((with_reducible show rdMul (.int _) (.int _) _ _); first | refine mul_l (by decide) (by decide) ?_ | refine mul_r (by decide) (by decide) ?_ | refine mul_l (by omega) (by omega) ?_ | refine mul_r (by omega) (by omega) ?_)
  | ((with_reducible show rdDiv (.int _) (.int _) _ _); refine div_int (by first | decide | assumption | omega) (by first | decide | assumption | omega) ?_)
  | ((with_reducible show rdDivmod [.int _, .int _] _ _); refine dm_int (by first | decide | assumption | omega) (by first | decide | assumption | omega) ?_)
  | ((with_reducible show @ite _ (_ = true) _ _ _); first | refine ifYes (by first | with_reducible rfl | exact Bool.not_false | assumption) ?_ | refine ifNo (by first | with_reducible rfl | exact Bool.not_true | assumption) ?_)
  | ((with_reducible show ∃ _, _ ∧ _); refine ⟨_, celL_of (by bv_omega), ?_⟩)
  | ((with_reducible show ∃ _ _ _ _, _ ∧ _ ∧ _ ∧ _ ∧ _); refine ⟨_, _, _, _, rfl, rfl, by bv_omega, by rfl, ?_⟩)
  | ((with_reducible show (_ : Nat) ≤ sizeLine ∧ _); refine ⟨by rw [sizeLine_eq]; exact Nat.le_of_ble_eq_true rfl, ?_⟩))
local macro_rules | `(tactic| infer_instance) => `(tactic| ((repeat symm); try dsimp only))
local macro_rules | `(tactic| ac_rfl) => `(tactic| ((repeat (first | symm | ((with_reducible show rdMod (.int _) (.int _) _ _); refine mod_any (by first | decide | assumption | omega) ?_; intro _ _ _))); try dsimp only))
/-- arcs that tell which keys -/
def ArcsT (size : Int) (T : Int → Bool) (ps : List (Int × Int)) : Prop := (ps = [(0, size)] ∨ ArcsOk size ps) ∧ ps.length ≤ 200 ∧ ∀ p, 0 ≤ p → p < size → ((∃ a ∈ ps, (p - a.1) % size < a.2) ↔ T p = true)
/-- an arc that no longer one holds -/
structure MaxRun (size : Int) (T : Int → Bool) (a : Int × Int) : Prop where
  lo : 0 ≤ a.1 ∧ a.1 < size
  many : 1 ≤ a.2 ∧ a.2 < size
  ahead : T ((a.1 - 1) % size) = false
  behind : T ((a.1 + a.2) % size) = false
  each : ∀ j, 0 ≤ j → j < a.2 → T ((a.1 + j) % size) = true
def ArcsV (size : Int) (T : Int → Bool) (ps : List (Int × Int)) : Prop := ArcsT size T ps ∧ (ps = [(0, size)] ∨ ∀ a ∈ ps, MaxRun size T a)
theorem ne_bl {a b : Bool} {M : Mem} {q : QD} (w : q (.bl (!decide (a = b))) M) : rdNe (.bl a) (.bl b) M q := by
  refine .inl ⟨.bool a, .bool b, rfl, rfl, ?_, ?_, ?_⟩
  · cases a <;> rfl
  · cases b <;> rfl
  · cases a <;> cases b <;> exact w
theorem run_uniq {size : Int} {T : Int → Bool} {a b : Int × Int} (s1 : 1 ≤ size) (A : MaxRun size T a) (B : MaxRun size T b) (h : (a.1 - b.1) % size < b.2) : a = b := by
  have d0 := Int.emod_nonneg (a.1 - b.1) (show size ≠ 0 by omega)
  have e1 := Int.emod_add_mul_ediv (a.1 - b.1) size
  have he : (a.1 - b.1) % size = 0 := by
    by_cases z : (a.1 - b.1) % size = 0
    · exact z
    · exfalso
      have h1 := B.each ((a.1 - b.1) % size - 1) (by omega) (by omega)
      have e2 : b.1 + ((a.1 - b.1) % size - 1) = (a.1 - 1) + size * (-((a.1 - b.1) / size)) := by rw [Int.mul_neg]; omega
      rw [e2, Int.add_mul_emod_self_left, A.ahead] at h1
      cases h1
  have e3 : a.1 = b.1 := by
    have A1 := A.lo
    have B1 := B.lo
    refine mod_same (size := size) ?_ (by omega) (by omega)
    have := Int.emod_emod_of_dvd (a.1 - b.1) (Int.dvd_refl size)
    have h3 : a.1 = b.1 + (a.1 - b.1) := by omega
    rw [h3, Int.add_emod, he, Int.add_zero, Int.emod_emod_of_dvd _ (Int.dvd_refl _)]
  have e4 : a.2 = b.2 := by
    have A2 := A.many
    have B2 := B.many
    rcases Int.lt_trichotomy a.2 b.2 with w | w | w
    · exfalso
      have h1 := B.each a.2 (by omega) w
      rw [← e3, A.behind] at h1
      cases h1
    · exact w
    · exfalso
      have h1 := A.each b.2 (by omega) w
      rw [e3, B.behind] at h1
      cases h1
  exact Prod.ext e3 e4
/-- just the arcs of these keys -/
def ArcsW (size : Int) (T : Int → Bool) (ps : List (Int × Int)) : Prop := ((∀ p, 0 ≤ p → p < size → T p = true) ∧ ps = [(0, size)]) ∨ (¬ (∀ p, 0 ≤ p → p < size → T p = true) ∧ ps.Pairwise (fun a b => a.1 < b.1) ∧ ∀ a, a ∈ ps ↔ MaxRun size T a)
theorem ArcsV.w {size : Int} {T : Int → Bool} {ps : List (Int × Int)} (s1 : 1 ≤ size) (h : ArcsV size T ps) : ArcsW size T ps := by
  obtain ⟨⟨h1, _, h3⟩, h4⟩ := h
  by_cases al : ∀ p, 0 ≤ p → p < size → T p = true
  · left
    refine ⟨al, ?_⟩
    rcases h4 with e | hm
    · exact e
    · exfalso
      obtain ⟨a, ha, _⟩ := (h3 0 (by omega) (by omega)).mpr (al 0 (by omega) (by omega))
      have := (hm a ha).ahead
      rw [al _ (Int.emod_nonneg _ (by omega)) (Int.emod_lt_of_pos _ (by omega))] at this
      cases this
  · right
    have nf : ps ≠ [(0, size)] := fun e => al fun p p0 p1 => (h3 p p0 p1).mp ⟨(0, size), by rw [e]; simp, Int.emod_lt_of_pos _ (by omega)⟩
    have hm := h4.resolve_left nf
    refine ⟨al, (h1.resolve_left nf).asc, fun a => ⟨hm a, fun A => ?_⟩⟩
    have h5 := A.each 0 (by omega) (by have := A.many; omega)
    rw [Int.add_zero, Int.emod_eq_of_lt A.lo.1 A.lo.2] at h5
    obtain ⟨b, hb, hlt⟩ := (h3 a.1 A.lo.1 A.lo.2).mpr h5
    rw [run_uniq s1 A (hm b hb) hlt]
    exact hb
theorem ArcsW.len {size : Int} {T : Int → Bool} {ps : List (Int × Int)} (h : ArcsW size T ps) (s1 : 1 ≤ size) : (ps.length : Int) ≤ size ∧ ∀ a ∈ ps, 0 ≤ a.1 ∧ a.1 < size ∧ 1 ≤ a.2 ∧ a.2 ≤ size := by
  rcases h with ⟨_, rfl⟩ | ⟨_, b, c⟩
  · refine ⟨by simp; omega, fun a ha => ?_⟩
    rw [List.mem_singleton.mp ha]
    exact ⟨Int.le_refl _, by dsimp only; omega, by dsimp only; omega, Int.le_refl _⟩
  · have hb : ∀ a ∈ ps, 0 ≤ a.1 ∧ a.1 < size ∧ 1 ≤ a.2 ∧ a.2 ≤ size := fun a ha => by
      have A := (c a).mp ha
      exact ⟨A.lo.1, A.lo.2, A.many.1, by have := A.many.2; omega⟩
    refine ⟨?_, hb⟩
    have hn : (ps.map fun a => a.1.toNat).Nodup := by
      unfold List.Nodup
      rw [List.pairwise_map]
      refine List.Pairwise.imp_of_mem (R := fun a b : Int × Int => a.1 < b.1) (fun {x y} hx hy h e => ?_) b
      have := hb x hx
      have := hb y hy
      omega
    have := nodup_len (ys := List.range size.toNat) hn fun x hx => by
      obtain ⟨a, ha, rfl⟩ := List.mem_map.mp hx
      have := hb a ha
      exact List.mem_range.mpr (by omega)
    rw [List.length_map, List.length_range] at this
    omega
theorem atI_last {α : Type} {l : List α} {x : α} : atI (l ++ [x]) (-1) = some x := by
  have e : ixN (l ++ [x]).length (-1) = some l.length := by
    unfold ixN
    rw [List.length_append, List.length_singleton]
    simp
    omega
  unfold atI
  rw [e]
  show (l ++ [x])[l.length]? = _
  simp
theorem Sh.bool (b : Bool) : Sh 20 0 (.bool b) := by
  cases b
  · exact ⟨by decide +kernel, by decide +kernel, by decide +kernel, by decide +kernel⟩
  · exact ⟨by decide +kernel, by decide +kernel, by decide +kernel, by decide +kernel⟩
end R
set_option maxRecDepth 100000
set_option maxHeartbeats 4000000
namespace DL
open PySem PySem.Spec PyProof.Rows L2
end DL
set_option maxRecDepth 100000
set_option maxHeartbeats 1000000
namespace R
open PySem PySem.Spec PyProof.Rows L2 DL
local macro_rules | `(tactic| bv_omega) => `(tactic| first | assumption | exact mset_same)
local macro_rules | `(tactic| symm) => `(tactic| first
  | ((with_reducible show ∃ _, _ = _ ∧ _); refine ⟨_, rfl, ?_⟩)
  | ((with_reducible show _ = _ ∧ _); refine ⟨rfl, ?_⟩)
  | ((with_reducible show ∃ _ _, _ = _ ∧ _ = _ ∧ _); refine ⟨_, _, rfl, rfl, ?_⟩)
  | ((with_reducible show ∃ _ _, _ = _ ∧ _); refine ⟨_, _, rfl, ?_⟩)
  | ((with_reducible show ∃ _ _ _, _ = _ ∧ _); refine ⟨_, _, _, rfl, ?_⟩)
  | ((with_reducible show (_ ≤ _ ∧ _) ∧ _); refine ⟨by omega, ?_⟩)
  | with_reducible refine add_int ?_ | with_reducible refine sub_int ?_
  | with_reducible refine lt_int ?_ | with_reducible refine le_int ?_ | with_reducible refine gt_int ?_ | with_reducible refine ge_int ?_
  | with_reducible refine int_int ?_
  | with_reducible refine eq_int ?_ | with_reducible refine ne_int ?_
  | with_reducible refine len_tup ?_ | with_reducible refine len_lst ?_
  | ((with_reducible show rdIx (.cel _) (.int _) _ _); refine ix_cel (by bv_omega) (by rfl) ?_)
  | ((with_reducible show rdIx (.lst _) (.int _) _ _); refine ix_lst (by rfl) ?_)
  | ((with_reducible show rdIx (.tup _) (.int _) _ _); refine ix_tup (by rfl) ?_)
  | ((with_reducible show rdLen [.cel _] _ _); refine len_cel (by bv_omega) ?_)
  | ((with_reducible show rdMul (.int _) (.int _) _ _); first | refine mul_l (by decide) (by decide) ?_ | refine mul_r (by decide) (by decide) ?_ | refine mul_l (by omega) (by omega) ?_ | refine mul_r (by omega) (by omega) ?_)
  | ((with_reducible show rdDiv (.int _) (.int _) _ _); refine div_int (by first | decide | assumption | omega) (by first | decide | assumption | omega) ?_)
  | ((with_reducible show rdDivmod [.int _, .int _] _ _); refine dm_int (by first | decide | assumption | omega) (by first | decide | assumption | omega) ?_)
  | ((with_reducible show @ite _ (_ = true) _ _ _); first | refine ifYes (by first | with_reducible rfl | exact Bool.not_false | assumption) ?_ | refine ifNo (by first | with_reducible rfl | exact Bool.not_true | assumption) ?_)
  | ((with_reducible show ∃ _, _ ∧ _); refine ⟨_, celL_of (by bv_omega), ?_⟩)
  | ((with_reducible show ∃ _ _ _ _, _ ∧ _ ∧ _ ∧ _ ∧ _); refine ⟨_, _, _, _, rfl, rfl, by bv_omega, by rfl, ?_⟩)
  | ((with_reducible show (_ : Nat) ≤ sizeLine ∧ _); refine ⟨by rw [sizeLine_eq]; exact Nat.le_of_ble_eq_true rfl, ?_⟩))
local macro_rules | `(tactic| infer_instance) => `(tactic| ((repeat symm); try dsimp only))
local macro_rules | `(tactic| ac_rfl) => `(tactic| ((repeat (first | symm | ((with_reducible show rdMod (.int _) (.int _) _ _); refine mod_any (by first | decide | assumption | omega) ?_; intro _ _ _))); try dsimp only))
theorem pw_rising : ∀ {p : Str} {l : List Str}, (p :: l).Pairwise (fun a b => ¬ b.cps.toList < a.cps.toList) → PyProof.Rows.risingS p l = true
  | p, [], _ => rfl
  | p, x :: r, h => by
    obtain ⟨h1, h2⟩ := List.pairwise_cons.mp h
    show (!PySem.Spec.ltCps x.cps.toList p.cps.toList && PyProof.Rows.risingS x r) = true
    rw [Bool.and_eq_true, PyProof.Rows.ltCps_eq]
    exact ⟨by simpa using h1 x List.mem_cons_self, pw_rising h2⟩
theorem pw_sorted : ∀ {l : List Str}, l.Pairwise (fun a b => ¬ b.cps.toList < a.cps.toList) → PyProof.Rows.sortedS l = true
  | [], _ => rfl
  | _ :: _, h => pw_rising h
theorem sort_ex (l : List Str) : ∃ ys : List Str, ys.Perm l ∧ PyProof.Rows.sortedS ys = true := by
  refine ⟨l.mergeSort fun a b => decide (a.cps.toList ≤ b.cps.toList), List.mergeSort_perm _ _, pw_sorted ?_⟩
  have h := List.pairwise_mergeSort (le := fun a b : Str => decide (a.cps.toList ≤ b.cps.toList)) (fun a b c h1 h2 => decide_eq_true (List.le_trans (of_decide_eq_true h1) (of_decide_eq_true h2))) (fun a b => by
    rw [Bool.or_eq_true, decide_eq_true_iff, decide_eq_true_iff]
    exact List.le_total _ _) l
  exact h.imp fun z => List.not_lt.mpr (of_decide_eq_true z)
end R
set_option maxRecDepth 100000
namespace R
open PySem PySem.Spec PyProof.Rows L2 DL
end R
set_option maxRecDepth 100000
set_option maxHeartbeats 1000000
namespace R
open PySem PySem.Spec PyProof.Rows L2 DL
local macro_rules | `(tactic| bv_omega) => `(tactic| first | assumption | exact mset_same)
local macro_rules | `(tactic| symm) => `(tactic| first
  | ((with_reducible show ∃ _, _ = _ ∧ _); refine ⟨_, rfl, ?_⟩)
  | ((with_reducible show _ = _ ∧ _); refine ⟨rfl, ?_⟩)
  | ((with_reducible show ∃ _ _, _ = _ ∧ _ = _ ∧ _); refine ⟨_, _, rfl, rfl, ?_⟩)
  | ((with_reducible show ∃ _ _, _ = _ ∧ _); refine ⟨_, _, rfl, ?_⟩)
  | ((with_reducible show ∃ _ _ _, _ = _ ∧ _); refine ⟨_, _, _, rfl, ?_⟩)
  | ((with_reducible show (_ ≤ _ ∧ _) ∧ _); refine ⟨by omega, ?_⟩)
  | with_reducible refine add_int ?_ | with_reducible refine sub_int ?_
  | with_reducible refine lt_int ?_ | with_reducible refine le_int ?_ | with_reducible refine gt_int ?_ | with_reducible refine ge_int ?_
  | with_reducible refine int_int ?_
  | with_reducible refine eq_int ?_ | with_reducible refine ne_int ?_
  | with_reducible refine len_tup ?_ | with_reducible refine len_lst ?_
  | ((with_reducible show rdIx (.cel _) (.int _) _ _); refine ix_cel (by bv_omega) (by rfl) ?_)
  | ((with_reducible show rdIx (.lst _) (.int _) _ _); refine ix_lst (by rfl) ?_)
  | ((with_reducible show rdIx (.tup _) (.int _) _ _); refine ix_tup (by rfl) ?_)
  | ((with_reducible show rdLen [.cel _] _ _); refine len_cel (by bv_omega) ?_)
  | ((with_reducible show rdMul (.int _) (.int _) _ _); first | refine mul_l (by decide) (by decide) ?_ | refine mul_r (by decide) (by decide) ?_ | refine mul_l (by omega) (by omega) ?_ | refine mul_r (by omega) (by omega) ?_)
  | ((with_reducible show rdDiv (.int _) (.int _) _ _); refine div_int (by first | decide | assumption | omega) (by first | decide | assumption | omega) ?_)
  | ((with_reducible show rdDivmod [.int _, .int _] _ _); refine dm_int (by first | decide | assumption | omega) (by first | decide | assumption | omega) ?_)
  | ((with_reducible show @ite _ (_ = true) _ _ _); first | refine ifYes (by first | with_reducible rfl | exact Bool.not_false | assumption) ?_ | refine ifNo (by first | with_reducible rfl | exact Bool.not_true | assumption) ?_)
  | ((with_reducible show ∃ _, _ ∧ _); refine ⟨_, celL_of (by bv_omega), ?_⟩)
  | ((with_reducible show ∃ _ _ _ _, _ ∧ _ ∧ _ ∧ _ ∧ _); refine ⟨_, _, _, _, rfl, rfl, by bv_omega, by rfl, ?_⟩)
  | ((with_reducible show (_ : Nat) ≤ sizeLine ∧ _); refine ⟨by rw [sizeLine_eq]; exact Nat.le_of_ble_eq_true rfl, ?_⟩))
local macro_rules | `(tactic| infer_instance) => `(tactic| ((repeat symm); try dsimp only))
local macro_rules | `(tactic| ac_rfl) => `(tactic| ((repeat (first | symm | ((with_reducible show rdMod (.int _) (.int _) _ _); refine mod_any (by first | decide | assumption | omega) ?_; intro _ _ _))); try dsimp only))
theorem py_intL {l : List Int} {M : Mem} : pyOf M (.lst (l.map D.int)) = some (.list (l.map PyData.int)) := by
  show (toPys (l.map D.int)).map PyData.list = _
  rw [toPys_int]; rfl
end R
set_option maxRecDepth 100000
set_option maxHeartbeats 1000000
namespace R
open PySem PySem.Spec PyProof.Rows L2 DL
local macro_rules | `(tactic| bv_omega) => `(tactic| first | assumption | exact mset_same)
local macro_rules | `(tactic| symm) => `(tactic| first
  | ((with_reducible show ∃ _, _ = _ ∧ _); refine ⟨_, rfl, ?_⟩)
  | ((with_reducible show _ = _ ∧ _); refine ⟨rfl, ?_⟩)
  | ((with_reducible show ∃ _ _, _ = _ ∧ _ = _ ∧ _); refine ⟨_, _, rfl, rfl, ?_⟩)
  | ((with_reducible show ∃ _ _, _ = _ ∧ _); refine ⟨_, _, rfl, ?_⟩)
  | ((with_reducible show ∃ _ _ _, _ = _ ∧ _); refine ⟨_, _, _, rfl, ?_⟩)
  | ((with_reducible show (_ ≤ _ ∧ _) ∧ _); refine ⟨by omega, ?_⟩)
  | with_reducible refine add_int ?_ | with_reducible refine sub_int ?_
  | with_reducible refine lt_int ?_ | with_reducible refine le_int ?_ | with_reducible refine gt_int ?_ | with_reducible refine ge_int ?_
  | with_reducible refine int_int ?_
  | with_reducible refine eq_int ?_ | with_reducible refine ne_int ?_
  | with_reducible refine len_tup ?_ | with_reducible refine len_lst ?_
  | ((with_reducible show rdIx (.cel _) (.int _) _ _); refine ix_cel (by bv_omega) (by rfl) ?_)
  | ((with_reducible show rdIx (.lst _) (.int _) _ _); refine ix_lst (by rfl) ?_)
  | ((with_reducible show rdIx (.tup _) (.int _) _ _); refine ix_tup (by rfl) ?_)
  | ((with_reducible show rdLen [.cel _] _ _); refine len_cel (by bv_omega) ?_)
  | ((with_reducible show rdMul (.int _) (.int _) _ _); first | refine mul_l (by decide) (by decide) ?_ | refine mul_r (by decide) (by decide) ?_ | refine mul_l (by omega) (by omega) ?_ | refine mul_r (by omega) (by omega) ?_)
  | ((with_reducible show rdDiv (.int _) (.int _) _ _); refine div_int (by first | decide | assumption | omega) (by first | decide | assumption | omega) ?_)
  | ((with_reducible show rdDivmod [.int _, .int _] _ _); refine dm_int (by first | decide | assumption | omega) (by first | decide | assumption | omega) ?_)
  | ((with_reducible show @ite _ (_ = true) _ _ _); first | refine ifYes (by first | with_reducible rfl | exact Bool.not_false | assumption) ?_ | refine ifNo (by first | with_reducible rfl | exact Bool.not_true | assumption) ?_)
  | ((with_reducible show ∃ _, _ ∧ _); refine ⟨_, celL_of (by bv_omega), ?_⟩)
  | ((with_reducible show ∃ _ _ _ _, _ ∧ _ ∧ _ ∧ _ ∧ _); refine ⟨_, _, _, _, rfl, rfl, by bv_omega, by rfl, ?_⟩)
  | ((with_reducible show (_ : Nat) ≤ sizeLine ∧ _); refine ⟨by rw [sizeLine_eq]; exact Nat.le_of_ble_eq_true rfl, ?_⟩))
local macro_rules | `(tactic| infer_instance) => `(tactic| ((repeat symm); try dsimp only))
local macro_rules | `(tactic| ac_rfl) => `(tactic| ((repeat (first | symm | ((with_reducible show rdMod (.int _) (.int _) _ _); refine mod_any (by first | decide | assumption | omega) ?_; intro _ _ _))); try dsimp only))
end R
set_option maxRecDepth 100000
set_option maxHeartbeats 1000000
namespace R
open PySem PySem.Spec PyProof.Rows L2 DL
local macro_rules | `(tactic| bv_omega) => `(tactic| first | assumption | exact mset_same)
local macro_rules | `(tactic| symm) => `(tactic| first
  | ((with_reducible show ∃ _, _ = _ ∧ _); refine ⟨_, rfl, ?_⟩)
  | ((with_reducible show _ = _ ∧ _); refine ⟨rfl, ?_⟩)
  | ((with_reducible show ∃ _ _, _ = _ ∧ _ = _ ∧ _); refine ⟨_, _, rfl, rfl, ?_⟩)
  | ((with_reducible show ∃ _ _, _ = _ ∧ _); refine ⟨_, _, rfl, ?_⟩)
  | ((with_reducible show ∃ _ _ _, _ = _ ∧ _); refine ⟨_, _, _, rfl, ?_⟩)
  | ((with_reducible show (_ ≤ _ ∧ _) ∧ _); refine ⟨by omega, ?_⟩)
  | with_reducible refine add_int ?_ | with_reducible refine sub_int ?_
  | with_reducible refine lt_int ?_ | with_reducible refine le_int ?_ | with_reducible refine gt_int ?_ | with_reducible refine ge_int ?_
  | with_reducible refine int_int ?_
  | with_reducible refine eq_int ?_ | with_reducible refine ne_int ?_
  | with_reducible refine len_tup ?_ | with_reducible refine len_lst ?_
  | ((with_reducible show rdIx (.cel _) (.int _) _ _); refine ix_cel (by bv_omega) (by rfl) ?_)
  | ((with_reducible show rdIx (.lst _) (.int _) _ _); refine ix_lst (by rfl) ?_)
  | ((with_reducible show rdIx (.tup _) (.int _) _ _); refine ix_tup (by rfl) ?_)
  | ((with_reducible show rdLen [.cel _] _ _); refine len_cel (by bv_omega) ?_)
  | ((with_reducible show rdMul (.int _) (.int _) _ _); first | refine mul_l (by decide) (by decide) ?_ | refine mul_r (by decide) (by decide) ?_ | refine mul_l (by omega) (by omega) ?_ | refine mul_r (by omega) (by omega) ?_)
  | ((with_reducible show rdDiv (.int _) (.int _) _ _); refine div_int (by first | decide | assumption | omega) (by first | decide | assumption | omega) ?_)
  | ((with_reducible show rdDivmod [.int _, .int _] _ _); refine dm_int (by first | decide | assumption | omega) (by first | decide | assumption | omega) ?_)
  | ((with_reducible show @ite _ (_ = true) _ _ _); first | refine ifYes (by first | with_reducible rfl | exact Bool.not_false | assumption) ?_ | refine ifNo (by first | with_reducible rfl | exact Bool.not_true | assumption) ?_)
  | ((with_reducible show ∃ _, _ ∧ _); refine ⟨_, celL_of (by bv_omega), ?_⟩)
  | ((with_reducible show ∃ _ _ _ _, _ ∧ _ ∧ _ ∧ _ ∧ _); refine ⟨_, _, _, _, rfl, rfl, by bv_omega, by rfl, ?_⟩)
  | ((with_reducible show (_ : Nat) ≤ sizeLine ∧ _); refine ⟨by rw [sizeLine_eq]; exact Nat.le_of_ble_eq_true rfl, ?_⟩))
local macro_rules | `(tactic| infer_instance) => `(tactic| ((repeat symm); try dsimp only))
local macro_rules | `(tactic| ac_rfl) => `(tactic| ((repeat (first | symm | ((with_reducible show rdMod (.int _) (.int _) _ _); refine mod_any (by first | decide | assumption | omega) ?_; intro _ _ _))); try dsimp only))
end R
set_option maxRecDepth 100000
set_option maxHeartbeats 1000000
namespace R
open PySem PySem.Spec PyProof.Rows L2 DL
local macro_rules | `(tactic| bv_omega) => `(tactic| first | assumption | exact mset_same)
local macro_rules | `(tactic| symm) => `(tactic| first
  | ((with_reducible show ∃ _, _ = _ ∧ _); refine ⟨_, rfl, ?_⟩)
  | ((with_reducible show _ = _ ∧ _); refine ⟨rfl, ?_⟩)
  | ((with_reducible show ∃ _ _, _ = _ ∧ _ = _ ∧ _); refine ⟨_, _, rfl, rfl, ?_⟩)
  | ((with_reducible show ∃ _ _, _ = _ ∧ _); refine ⟨_, _, rfl, ?_⟩)
  | ((with_reducible show ∃ _ _ _, _ = _ ∧ _); refine ⟨_, _, _, rfl, ?_⟩)
  | ((with_reducible show (_ ≤ _ ∧ _) ∧ _); refine ⟨by omega, ?_⟩)
  | with_reducible refine add_int ?_ | with_reducible refine sub_int ?_
  | with_reducible refine lt_int ?_ | with_reducible refine le_int ?_ | with_reducible refine gt_int ?_ | with_reducible refine ge_int ?_
  | with_reducible refine int_int ?_
  | with_reducible refine eq_int ?_ | with_reducible refine ne_int ?_
  | with_reducible refine len_tup ?_ | with_reducible refine len_lst ?_
  | ((with_reducible show rdIx (.cel _) (.int _) _ _); refine ix_cel (by bv_omega) (by rfl) ?_)
  | ((with_reducible show rdIx (.lst _) (.int _) _ _); refine ix_lst (by rfl) ?_)
  | ((with_reducible show rdIx (.tup _) (.int _) _ _); refine ix_tup (by rfl) ?_)
  | ((with_reducible show rdLen [.cel _] _ _); refine len_cel (by bv_omega) ?_)
  | ((with_reducible show rdMul (.int _) (.int _) _ _); first | refine mul_l (by decide) (by decide) ?_ | refine mul_r (by decide) (by decide) ?_ | refine mul_l (by omega) (by omega) ?_ | refine mul_r (by omega) (by omega) ?_)
  | ((with_reducible show rdDiv (.int _) (.int _) _ _); refine div_int (by first | decide | assumption | omega) (by first | decide | assumption | omega) ?_)
  | ((with_reducible show rdDivmod [.int _, .int _] _ _); refine dm_int (by first | decide | assumption | omega) (by first | decide | assumption | omega) ?_)
  | ((with_reducible show @ite _ (_ = true) _ _ _); first | refine ifYes (by first | with_reducible rfl | exact Bool.not_false | assumption) ?_ | refine ifNo (by first | with_reducible rfl | exact Bool.not_true | assumption) ?_)
  | ((with_reducible show ∃ _, _ ∧ _); refine ⟨_, celL_of (by bv_omega), ?_⟩)
  | ((with_reducible show ∃ _ _ _ _, _ ∧ _ ∧ _ ∧ _ ∧ _); refine ⟨_, _, _, _, rfl, rfl, by bv_omega, by rfl, ?_⟩)
  | ((with_reducible show (_ : Nat) ≤ sizeLine ∧ _); refine ⟨by rw [sizeLine_eq]; exact Nat.le_of_ble_eq_true rfl, ?_⟩))
local macro_rules | `(tactic| infer_instance) => `(tactic| ((repeat symm); try dsimp only))
local macro_rules | `(tactic| ac_rfl) => `(tactic| ((repeat (first | symm | ((with_reducible show rdMod (.int _) (.int _) _ _); refine mod_any (by first | decide | assumption | omega) ?_; intro _ _ _))); try dsimp only))
end R
set_option maxRecDepth 100000
set_option maxHeartbeats 4000000
namespace DL
open PySem PySem.Spec PyProof.Rows L2
def IsPairT (h : Heap) (v : Value) (x : PySem.Str) (z : Int) : Prop := ∃ (a : Addr) (o : Obj) (t u : Tok) (n : Nat), v = .ref a ∧ h.get? a = some o ∧ o.cls = .type "tuple" ∧ o.data = .seq #[.str x t, .int z u] n
theorem IsPairT.keeps {h h' : Heap} {v : Value} {x : PySem.Str} {z : Int} (p : IsPairT h v x z) (k : ∀ b o, h.get? b = some o → o.cls = .type "tuple" → h'.get? b = some o) : IsPairT h' v x z := by
  obtain ⟨a, o, t, u, n, e, ho, hc, hd⟩ := p
  exact ⟨a, o, t, u, n, e, k a o ho hc, hc, hd⟩
end DL
set_option maxRecDepth 100000
set_option maxHeartbeats 4000000
namespace DL
open PySem PySem.Spec PyProof.Rows L2
section
variable {X : Cx} {W : WX}
def rdInT (neg : Bool) : RD2 := fun x y M q => ∃ a bs, pyOf M x = some a ∧ pyOf M y = some (.tuple bs) ∧ SeqAt.shaped a = true ∧ SeqAt.shaped (.tuple bs) = true ∧ q (.bl (bs.any fun z => PyData.eqv z a)) M
def rInTD (K : PySem.W.Frag) : R2 := fun x y H Q => ∃ d ds, Dp K H x d ∧ Dp K H y (.tuple ds) ∧ SeqAt.shaped d = true ∧ SeqAt.shaped (.tuple ds) = true ∧ Q (.bl (ds.any fun z => PyData.eqv z d)) H
theorem op_inTD (hu : X.A.units + 65 < cLine) : OpR X (compareOp .In) (rInTD X.K) := fun pins s σ H x y v u Q I rx ry ⟨d, ds, hd, he, sd, se, q⟩ => by
  obtain ⟨as, r1⟩ := Dp.reads I d x v hd rx
  obtain ⟨bs, r2⟩ := Dp.reads I (.tuple ds) y u he ry
  exact SeqAt.in_tuple_reads r2 r1 (SeqAt.canLay_of_shaped se) (SeqAt.canLay_of_shaped sd) (room_in_shaped sd hu) ⟨.bl _, H, I, rfl, q⟩
theorem opd_inT (hu : X.A.units + 65 < cLine) : OpD X (compareOp .In) (rdInT false) := ⟨_, op_inTD hu, fun H0 H M x y dx dy q Q S hx hy w k => by
  obtain ⟨a, b, ea, eb, sa, sb, w⟩ := w
  exact ⟨a, b, S.py hx ea, S.py hy eb, sa, sb, k.here S (.bl _) w⟩⟩
end
end DL
set_option maxRecDepth 100000
set_option maxHeartbeats 4000000
namespace DL
open PySem PySem.Spec PyProof.Rows L2
end DL
set_option maxRecDepth 100000
set_option maxHeartbeats 4000000
namespace DL
open PySem PySem.Spec PyProof.Rows L2
end DL
set_option maxRecDepth 100000
set_option maxHeartbeats 4000000
namespace DL
open PySem PySem.Spec PyProof.Rows L2
end DL
set_option maxRecDepth 100000
set_option maxHeartbeats 4000000
namespace DL
open PySem PySem.Spec PyProof.Rows L2
end DL
set_option maxRecDepth 100000
set_option maxHeartbeats 4000000
namespace DL
open PySem PySem.Spec PyProof.Rows L2 PySem.W
end DL
set_option maxRecDepth 100000
set_option maxHeartbeats 4000000
namespace DL
open PySem PySem.Spec PyProof.Rows L2
end DL
set_option maxRecDepth 100000
set_option maxHeartbeats 1000000
namespace R
open PySem PySem.Spec PyProof.Rows L2 DL
local macro_rules | `(tactic| bv_omega) => `(tactic| first | assumption | exact mset_same)
local macro_rules | `(tactic| symm) => `(tactic| first
  | ((with_reducible show ∃ _, _ = _ ∧ _); refine ⟨_, rfl, ?_⟩)
  | ((with_reducible show _ = _ ∧ _); refine ⟨rfl, ?_⟩)
  | ((with_reducible show ∃ _ _, _ = _ ∧ _ = _ ∧ _); refine ⟨_, _, rfl, rfl, ?_⟩)
  | ((with_reducible show ∃ _ _, _ = _ ∧ _); refine ⟨_, _, rfl, ?_⟩)
  | ((with_reducible show ∃ _ _ _, _ = _ ∧ _); refine ⟨_, _, _, rfl, ?_⟩)
  | ((with_reducible show (_ ≤ _ ∧ _) ∧ _); refine ⟨by omega, ?_⟩)
  | with_reducible refine add_int ?_ | with_reducible refine sub_int ?_
  | with_reducible refine lt_int ?_ | with_reducible refine le_int ?_ | with_reducible refine gt_int ?_ | with_reducible refine ge_int ?_
  | with_reducible refine int_int ?_
  | with_reducible refine eq_int ?_ | with_reducible refine ne_int ?_
  | with_reducible refine len_tup ?_ | with_reducible refine len_lst ?_
  | ((with_reducible show rdIx (.cel _) (.int _) _ _); refine ix_cel (by bv_omega) (by rfl) ?_)
  | ((with_reducible show rdIx (.lst _) (.int _) _ _); refine ix_lst (by rfl) ?_)
  | ((with_reducible show rdIx (.tup _) (.int _) _ _); refine ix_tup (by rfl) ?_)
  | ((with_reducible show rdLen [.cel _] _ _); refine len_cel (by bv_omega) ?_)
  | ((with_reducible show rdMul (.int _) (.int _) _ _); first | refine mul_l (by decide) (by decide) ?_ | refine mul_r (by decide) (by decide) ?_ | refine mul_l (by omega) (by omega) ?_ | refine mul_r (by omega) (by omega) ?_)
  | ((with_reducible show rdDiv (.int _) (.int _) _ _); refine div_int (by first | decide | assumption | omega) (by first | decide | assumption | omega) ?_)
  | ((with_reducible show rdDivmod [.int _, .int _] _ _); refine dm_int (by first | decide | assumption | omega) (by first | decide | assumption | omega) ?_)
  | ((with_reducible show @ite _ (_ = true) _ _ _); first | refine ifYes (by first | with_reducible rfl | exact Bool.not_false | assumption) ?_ | refine ifNo (by first | with_reducible rfl | exact Bool.not_true | assumption) ?_)
  | ((with_reducible show ∃ _, _ ∧ _); refine ⟨_, celL_of (by bv_omega), ?_⟩)
  | ((with_reducible show ∃ _ _ _ _, _ ∧ _ ∧ _ ∧ _ ∧ _); refine ⟨_, _, _, _, rfl, rfl, by bv_omega, by rfl, ?_⟩)
  | ((with_reducible show (_ : Nat) ≤ sizeLine ∧ _); refine ⟨by rw [sizeLine_eq]; exact Nat.le_of_ble_eq_true rfl, ?_⟩))
local macro_rules | `(tactic| infer_instance) => `(tactic| ((repeat symm); try dsimp only))
local macro_rules | `(tactic| ac_rfl) => `(tactic| ((repeat (first | symm | ((with_reducible show rdMod (.int _) (.int _) _ _); refine mod_any (by first | decide | assumption | omega) ?_; intro _ _ _))); try dsimp only))
end R
set_option maxRecDepth 100000
set_option maxHeartbeats 4000000
namespace DL
open PySem PySem.Spec PyProof.Rows L2
/-- at a stands a dict of defs: each key's def keeps its promise -/
def DispAt (P : Program) (w : World) (K : PySem.W.Frag) (mg : Str → Option Value) (base : Heap) (a : Addr) (k n : Nat) (tbl : List (Str × SpD)) : Prop :=
  ∀ z sd, tbl.lookup z = some sd → ∃ (f : Addr) (fd : FuncData) (ps : List Str), KDct K w a z (.ref f) ∧ PySem.W.keepIn K (.ref f) = true ∧ Binds K fd ps [] ∧ FnOk P w K mg base (L2.CX P w) k f fd ps (spOf K n sd)
def Disp (P : Program) (w : World) (K : PySem.W.Frag) (mg : Str → Option Value) (base : Heap) (x : Str) (k n : Nat) (tbl : List (Str × SpD)) : Prop :=
  ∃ a : Addr, mg x = some (.ref a) ∧ DispAt P w K mg base a k n tbl
@[reducible] def dDisp (i n : Nat) (tbl : List (Str × SpD)) (dk : DE) (da : DA) : DS := fun d env M => dk env M (fun y M1 => ∃ z sd, y = .str z ∧ tbl.lookup z = some sd ∧ ∀ f : Addr, (env.set i (some (.cel f)))[i]? = some (some (.cel f)) ∧ da (env.set i (some (.cel f))) M1 (fun ds M2 => ds.length = n ∧ sd ds M2 d.rt (d.ex (env.set i (some (.cel f))))) (d.ex (env.set i (some (.cel f))))) (d.ex env)
section
variable {X : Cx} {W : WX} {k n i : Nat} {tbl : List (Str × SpD)} {x tn : Str} {p1 p2 p3 p4 p5 p6 p7 : Pos} {key e : Expr} {es : List Expr} {dk : DE} {da : DA}
/-- x(..), x holding one of these defs -/
theorem pe_callF {S : Addr → Sp → Prop} {t : TA}
    (A : ∀ f sp, S f sp → PySem.W.keepIn X.K (.ref f) = true ∧ ∃ fd ps, Binds X.K fd ps [] ∧ FnOk X.prog X.w X.K X.mg X.base (L2.CX X.prog X.w) k f fd ps sp)
    (tk : Takes X W) (hr : Room k X.A) (hN : X.N[i]? = some x) (hv : Vis X.env.scope x) (ha : PA X (e :: es) t)
    (hdb : (x == ("__debug__" : Str)) = false := by decide) (hcd : (x == ("__classdict__" : Str)) = false := by decide)
    (he : starEach (e :: es) X.env = (false, eval e X.env) :: starEach es X.env := by rfl)
    (hpl : (backTo p6 (starEach es X.env)).any (·.1) = false := by rfl) :
    PE X (.Call (.Name x p5) (e :: es) [] p6) (fun σ H Q => ∃ f sp, σ[i]? = some (some (.ref f)) ∧ S f sp ∧ t σ H fun vs H1 => sp vs H1 Q (WE W σ)) :=
  ⟨fun pins s σ H Q I ⟨f, sp, hs, hS, ht⟩ => by
    obtain ⟨hk, fd, ps, hb, F⟩ := A f sp hS
    have var := (pe_var (pos := p5) hN hv hdb hcd).run pins s σ H (fun v H1 => v = .ref f ∧ H1 = H) I
    refine wpAny_Call_Name_kw (thn (var ⟨.ref f, hs, rfl, rfl⟩) ?_)
    rintro u s1 ⟨v, H1, I1, r1, rfl, rfl⟩
    obtain rfl : u = Value.ref f := r1
    refine PySem.W.callWith_K (h₀ := X.base) I.ok.mod.kin hk ?_ he hpl
    refine thn (ha.run p6 pins s1 σ _ _ I1 ht) ?_
    rintro us s2 ⟨vs, H2, I2, r, q⟩
    exact ⟨I2.kIn, run_fnS (E := WE W) F hr hb (passAt tk σ) I2 r q⟩⟩
theorem bd_disp (T : Disp X.prog X.w X.K X.mg X.base tn k n tbl) (hr : Room k X.A) (tk : Takes X W) (hN : X.N.Nodup) (hk : PD X W key dk) (ha : AD X W (e :: es) da)
    (hg : Gl X tn := by rfl) (hdt : (tn == ("__debug__" : Str)) = false := by decide) (hi : X.N[i]? = some x := by rfl) (hx : Loc X.env.scope x := by first | exact Or.inl rfl | exact Or.inr rfl)
    (hv : Vis X.env.scope x := by first | exact .inl rfl | exact .inr (.inl rfl))
    (hpx : PlainIx key := by exact fun _ _ => rfl) (hs : swapsWith (.Subscript (.Name tn p2) key p3) (some (.Name x p1)) p4.line X.env = pure false := by rfl)
    (hf : X.fn x = true ∨ X.env.scope.names.lookup x = some .local := by first | exact .inl rfl | exact .inr rfl)
    (hdb : (x == ("__debug__" : Str)) = false := by decide) (hcd : (x == ("__classdict__" : Str)) = false := by decide)
    (he : starEach (e :: es) X.env = (false, eval e X.env) :: starEach es X.env := by rfl)
    (hpl : (backTo p6 (starEach es X.env)).any (·.1) = false := by rfl) :
    BD X W [.Assign [.Name x p1] (.Subscript (.Name tn p2) key p3) p4, .Return (some (.Call (.Name x p5) (e :: es) [] p6)) p7] (dDisp i n tbl dk da) := by
  obtain ⟨a, hm, T⟩ := T
  have hcall := pe_callF (W := W) (k := k) (i := i) (x := x) (p5 := p5) (p6 := p6) (S := fun f sp => ∃ z sd fd ps, tbl.lookup z = some sd ∧ sp = spOf X.K n sd ∧ PySem.W.keepIn X.K (.ref f) = true ∧ Binds X.K fd ps [] ∧ FnOk X.prog X.w X.K X.mg X.base (L2.CX X.prog X.w) k f fd ps (spOf X.K n sd))
    (fun f sp ⟨z, sd, fd, ps, _, e1, h1, h2, h3⟩ => ⟨h1, fd, ps, h2, e1 ▸ h3⟩) tk hr hi hv ha hdb hcd he hpl
  refine pssImp (pss_cons (ps_set (i := i) hN hi hx (pe_ix ix_kdict (pe_glob (v := .ref a) hg hm rfl hdt) hk hpx) hs hf) (pss_one (ps_ret hcall))) ?_
  rintro D σ H ⟨env, M, d, H0, so, S, h, kk⟩
  refine goE so S h (kk.ex.at so) ?_
  rintro y dy H1 H' M1 e1 so1 S1 ry ⟨z, sd, rfl, hl, w⟩ kx1
  obtain ⟨f, fd, ps, hd, hkp, hb, F⟩ := T z sd hl
  refine ⟨a, z, .ref f, rfl, ry.inv_str, hd, ?_⟩
  have so2 : SlotOk X.K H1 (σ.set i (some (.ref f))) (env.set i (some (.cel f))) := so1.set i (.cel f)
  have kx2 := (kk.ex.mono e1).at so2
  obtain ⟨v, ev, rv⟩ := so2.get i _ (w f).1
  obtain rfl := rv.inv_cel
  refine ⟨f, _, ev, ⟨z, sd, fd, ps, hl, rfl, hkp, hb, F⟩, ?_⟩
  · refine goA so2 S1 (w f).2 kx2 ?_
    rintro vs ds H2 H'' M2 e2 so3 S2 rs ⟨hn, w2⟩ kx3
    exact ⟨ds, M2, _, _, H2, hn, rs, S2, w2, kk.rt.mono (e1.trans e2), kx3⟩
end
end DL
set_option maxRecDepth 100000
set_option maxHeartbeats 4000000
namespace DL
open PySem PySem.Spec PyProof.Rows L2
section
variable {X : Cx} {W : WX}
theorem sd_tryT {body : List Stmt} {h0 : ExceptHandler} {hs : List ExceptHandler} {pos : Pos} {db : DS} (hb : Takes X.nox WF → BD X.nox WF body db) : SDt X W (.Try body (h0 :: hs) [] [] pos) (dTryN db) :=
  psImp (ps_try_thru0 (t := liftS X.K WF db) (hb takes0)) fun D σ H ⟨env, M, d, H0, so, S, h, k⟩ => ⟨env, M, _, H0, so, S, h, ⟨k.nx, k.rt, k.bk, k.ct, kxe0⟩⟩
end
end DL
set_option maxRecDepth 100000
set_option maxHeartbeats 4000000
namespace DL
open PySem PySem.Spec PyProof.Rows L2
section
variable {X : Cx} {W : WX}
theorem merge3 {k1 k2 k3 : Str} {v1 v2 v3 : V} (h12 : k1 ≠ k2) (h13 : k1 ≠ k3) (h23 : k2 ≠ k3) : mergeK [] [((Sum.inr k1 : Key), v1), (.inr k2, v2), (.inr k3, v3)] = [((Sum.inr k1 : Key), v1), (.inr k2, v2), (.inr k3, v3)] := by
  simp [mergeK, putK, h12, h13, h23, h12.symm, h13.symm, h23.symm]
/-- {'a': x, 'b': y, 'c': z} -/
@[reducible] def dDic3 (k1 k2 k3 : Str) (d1 d2 d3 : DE) : DE := fun env M q E => ∀ p, M p = none → d1 env (mset M p (.dc [])) (fun y1 M1 => d2 env M1 (fun y2 M2 => d3 env M2 (fun y3 M3 => M3 p = some (.dc []) ∧ q (.cel p) (mset M3 p (.dc [(.inr k1, y1), (.inr k2, y2), (.inr k3, y3)]))) E) E) E
theorem pd_dic3 {k1 k2 k3 : Str} {j1 j2 j3 : Nat} {q1 q2 q3 : Pos} {v1 v2 v3 : Expr} {d1 d2 d3 : DE} {pos : Pos} (h12 : k1 ≠ k2) (h13 : k1 ≠ k3) (h23 : k2 ≠ k3) (h1 : PD X W v1 d1) (h2 : PD X W v2 d2) (h3 : PD X W v3 d3) :
    PD X W (.Dict [some (.Constant (.str k1) j1 q1), some (.Constant (.str k2) j2 q2), some (.Constant (.str k3) j3 q3)] [v1, v2, v3] pos) (dDic3 k1 k2 k3 d1 d2 d3) :=
  peImp (pe_disp (pps_cons pe_str h1 (pps_cons pe_str h2 (pps_cons pe_str h3 pps_nil))) rfl rfl (by simp) (by simp)) fun σ H Q ⟨env, M, q, E, H0, so, S, h, k, kx⟩ => fun p hp => by
    have n0 := (S.fresh hp).1
    have S1 : SD X.K H0 (upd H p (.dK [])) (mset M p (.dc [])) := S.put (x := .dc []) n0 fun _ e => ⟨[], e, .nil⟩
    refine goE so S1 (h p (S.fresh hp).2) kx fun y1 dy1 H1 H1' M1 e1 so1 S2 r1 w1 kx1 => goE so1 S2 w1 kx1 fun y2 dy2 H2 H2' M2 e2 so2 S3 r2 w2 kx2 => goE so2 S3 w2 kx2 fun y3 dy3 H3 H3' M3 e3 so3 S4 r3 ⟨em, w⟩ kx3 => ?_
    obtain ⟨n3, rs, hr, kv⟩ := S4.dict em
    cases kv
    refine ⟨hr, [(.inr k1, y1), (.inr k2, y2), (.inr k3, y3)], rfl, by simp, ?_⟩
    rw [merge3 h12 h13 h23]
    exact k _ _ H3 _ _ ((e1.trans e2).trans e3) (S4.dput (s := [(.inr k1, dy1), (.inr k2, dy2), (.inr k3, dy3)]) (r := [(.inr k1, y1), (.inr k2, y2), (.inr k3, y3)]) n3 (.cons (r1.mono (e2.trans e3)) (.cons (r2.mono e3) (.cons r3 .nil)))) (.cel p) w
end
end DL
set_option maxRecDepth 100000
namespace L31
open PySem PySem.Spec PyProof.Rows L2 DL R
inductive Deed where
  | join (x b : Str) (ms : List Int)
  | leave (x : Str)
  | copy (t g : Str)
  | settle
  | down (x : Str)
  | up (x : Str)
  | wipe (x : Str)
  | repair (t g : Str)
def deedD : Deed → D
  | .join x b ms => .tup [.str "join", .str x, .str b, intsT ms]
  | .leave x => .tup [.str "leave", .str x]
  | .copy t g => .tup [.str "copy", .str t, .str g]
  | .settle => .tup [.str "settle"]
  | .down x => .tup [.str "down", .str x]
  | .up x => .tup [.str "up", .str x]
  | .wipe x => .tup [.str "wipe", .str x]
  | .repair t g => .tup [.str "repair", .str t, .str g]
/-- the ring that counts, the next one, who is down -/
structure St where
  now : List Host
  aft : Option (List Host)
  dn : List Str
def nms (hs : List Host) : List Str := hs.map (·.name)
def onms : Option (List Host) → List Str
  | some a => nms a
  | none => []
noncomputable def sortS (l : List Str) : List Str := Classical.choose (sort_ex l)
def known (s : St) (x : Str) : Bool := decide (x ∈ nms s.now) || decide (x ∈ onms s.aft)
def gives (s : St) (t g : Str) : Bool := decide (g ∈ nms s.now) && (!decide (g = t) && (!decide (g ∈ s.dn) && !decide (t ∈ s.dn)))
def changed (hs : List Host) : Deed → Option (List Host)
  | .join x b ms => if (decide (x ∈ nms hs) || (decide (hs.length = 12) || !(ms.all fun m => !decide (m ∈ hs.flatMap (·.marks))))) = true then none else some (hs ++ [⟨x, b, ms⟩])
  | .leave x => if (decide (x ∈ nms hs) && decide (2 ≤ hs.length)) = true then some (hs.filter fun h => !decide (h.name = x)) else none
  | _ => none
noncomputable def later (s : St) : Deed → Option St
  | .settle => s.aft.map fun a => ⟨a, none, s.dn.filter fun x => decide (x ∈ nms a)⟩
  | .copy t g => if (decide (t ∈ onms s.aft) && gives s t g) = true then some s else none
  | .repair t g => if (decide (t ∈ nms s.now) && gives s t g) = true then some s else none
  | .down x => if (known s x && !decide (x ∈ s.dn)) = true then some ⟨s.now, s.aft, sortS (s.dn ++ [x])⟩ else none
  | .up x => if (known s x && decide (x ∈ s.dn)) = true then some ⟨s.now, s.aft, s.dn.filter fun y => !decide (y = x)⟩ else none
  | .wipe x => if known s x = true then some s else none
  | d => if s.aft = none then (changed s.now d).map fun a => ⟨s.now, some a, s.dn⟩ else none
def DeedOk (size : Int) : Deed → Prop
  | .join x b ms => nameB x = true ∧ nameB b = true ∧ MarksOk size ms
  | _ => True
/-- a ring and the next one -/
def Near (hs gs : List Host) : Prop := (∃ o, gs = hs ++ [o] ∧ ∀ h ∈ hs, h.name ≠ o.name) ∨ ∃ o ∈ hs, 2 ≤ hs.length ∧ gs = hs.filter fun h => !decide (h.name = o.name)
structure StOk (size : Int) (n : Nat) (s : St) : Prop where
  c : CrewOk size s.now
  a : ∀ gs, s.aft = some gs → CrewOk size gs ∧ Near s.now gs
  d : s.dn.length ≤ n
def optD (C : Addr) (size : Int) (r : Rule) : Option (List Host) → D
  | some a => ringD C size r a
  | none => .non
def optL (size : Int) (r : Rule) : Option (List Host) → D
  | some a => .lst (frameL size r a)
  | none => .non
def stateD (C : Addr) (size : Int) (r : Rule) (s : St) : D := .tup [ringD C size r s.now, optD C size r s.aft, strsT s.dn]
def standD (size : Int) (r : Rule) (s : St) : D := .lst [.lst (frameL size r s.now), optL size r s.aft, strsL s.dn]
def optS (size : Int) (r : Rule) : Option St → D
  | some s => standD size r s
  | none => .non
/-- the states at all moments -/
structure Path (size : Int) (s0 : St) (ds : List Deed) (ss : List St) : Prop where
  len : ss.length = ds.length + 1
  beg : ss[0]? = some s0
  stp : ∀ i d, ds[i]? = some d → ∃ s s', ss[i]? = some s ∧ ss[i + 1]? = some s' ∧ later s d = some s'
  dok : ∀ d ∈ ds, DeedOk size d
  sok : ∀ i s, ss[i]? = some s → StOk size i s
structure RuleF (size : Int) (r : Rule) : Prop where
  s0 : 1 ≤ size
  s1 : size ≤ 1000000000000000000
  r : RuleOk r
structure Fit (size : Int) (r : Rule) (s : St) (d : Deed) (s' : St) : Prop where
  f : RuleF size r
  so : StOk size 24 s
  dk : DeedOk size d
  l : later s d = some s'
structure PlanOk (size : Int) (r : Rule) (hs : List Host) (ds : List Deed) (ss : List St) : Prop where
  f : RuleF size r
  p : Path size ⟨hs, none, []⟩ ds ss
  n : ds.length ≤ 24
def deedsT (ds : List Deed) : D := .tup (ds.map deedD)
def statesT (C : Addr) (size : Int) (r : Rule) (ss : List St) : D := .tup (ss.map (stateD C size r))
def planF (C : Addr) (size : Int) (r : Rule) (hs : List Host) (ds : List Deed) (ss : List St) : List (Str × D) := [("_states", statesT C size r ss), ("_ring", ringD C size r hs), ("_steps", deedsT ds)]
def planD (C P : Addr) (size : Int) (r : Rule) (hs : List Host) (ds : List Deed) (ss : List St) : D := .ins P ["_states", "_ring", "_steps"] [statesT C size r ss, ringD C size r hs, deedsT ds]
noncomputable def pendF (size : Int) (r : Rule) (s : St) (p : Int) : List Str := match s.aft with
  | some a => (keepF size r a p).filter fun x => !decide (x ∈ keepF size r s.now p)
  | none => []
/-- the forms, as plain values -/
def formsP : List PyData := [.tuple [.str "join", .int 4], .tuple [.str "leave", .int 2], .tuple [.str "copy", .int 3], .tuple [.str "settle", .int 1], .tuple [.str "down", .int 2], .tuple [.str "up", .int 2], .tuple [.str "wipe", .int 2], .tuple [.str "repair", .int 3]]
def sd_names (C : Addr) : SpD := fun ds M q _ => ∃ (size : Int) (r : Rule) (o : Option (List Host)), ds = [optL size r o] ∧ (∀ a, o = some a → a.length ≤ 12) ∧ q (strsL (onms o)) M
def sd_is_form_of (C : Addr) : SpD := fun ds M q _ => ∃ d : Deed, ds = [deedD d, .tup [.tup [.str "join", .int 4], .tup [.str "leave", .int 2], .tup [.str "copy", .int 3], .tup [.str "settle", .int 1], .tup [.str "down", .int 2], .tup [.str "up", .int 2], .tup [.str "wipe", .int 2], .tup [.str "repair", .int 3]]] ∧ q (.bl true) M
def sd_changed (C : Addr) : SpD := fun ds M q _ => ∃ (size : Int) (r : Rule) (hs : List Host) (d : Deed), ds = [.lst (frameL size r hs), deedD d] ∧ CrewOk size hs ∧ DeedOk size d ∧ ((∃ x b ms, d = .join x b ms) ∨ ∃ x, d = .leave x) ∧ q (optL size r (changed hs d)) M
def sd_later (C : Addr) : SpD := fun ds M q _ => ∃ (size : Int) (r : Rule) (s : St) (d : Deed), ds = [standD size r s, deedD d] ∧ StOk size 24 s ∧ DeedOk size d ∧ ∀ M', Kept M M' → q (optS size r (later s d)) M'
def sd_step (C : Addr) : SpD := fun ds M q _ => ∃ (k : Addr) (g size : Int) (r : Rule) (s : St), ds = [.cel k, standD size r s] ∧ 1 ≤ size ∧ size ≤ 60 ∧ StOk size 24 s ∧ Kg M k g ∧ g + 200 < 1099511627776 ∧ ∀ d M', DeedOk size d → KeptB k M M' → Kg M' k (g + 100) → q (deedD d) M'
def sd_steps (C : Addr) : SpD := fun ds M q _ => ∃ (k : Addr) (g size : Int) (r : Rule) (hs : List Host) (n : Nat), ds = [.cel k, .lst (frameL size r hs), .int n] ∧ n ≤ 24 ∧ 1 ≤ size ∧ size ≤ 60 ∧ CrewOk size hs ∧ Kg M k g ∧ g + 6000 < 1099511627776 ∧ ∀ des ss a b M', Path size ⟨hs, none, []⟩ des ss → des.length ≤ n → M' a = some (.ls (des.map deedD)) → M' b = some (.ls (ss.map (standD size r))) → KeptB k M M' → Kg M' k (g + 5000) → q (.tup [.cel a, .cel b]) M'
def sd_can_give (C : Addr) : SpD := fun ds M q _ => ∃ (size : Int) (r : Rule) (s : St) (t g : Str), ds = [stateD C size r s, .str t, .str g] ∧ StOk size 24 s ∧ q (.bl (gives s t g)) M
def sd_is_known (C : Addr) : SpD := fun ds M q _ => ∃ (size : Int) (r : Rule) (s : St) (x : Str), ds = [stateD C size r s, .str x] ∧ StOk size 24 s ∧ q (.bl (known s x)) M
def sd_behind_join (C : Addr) : SpD := fun ds M q _ => ∃ (size : Int) (r : Rule) (s s' : St) (x b : Str) (ms : List Int), ds = [stateD C size r s, deedD (.join x b ms)] ∧ Fit size r s (.join x b ms) s' ∧ ∀ M', Kept M M' → q (stateD C size r s') M'
def sd_behind_leave (C : Addr) : SpD := fun ds M q _ => ∃ (size : Int) (r : Rule) (s s' : St) (x : Str), ds = [stateD C size r s, deedD (.leave x)] ∧ Fit size r s (.leave x) s' ∧ ∀ M', Kept M M' → q (stateD C size r s') M'
def sd_behind_copy (C : Addr) : SpD := fun ds M q _ => ∃ (size : Int) (r : Rule) (s s' : St) (t g : Str), ds = [stateD C size r s, deedD (.copy t g)] ∧ Fit size r s (.copy t g) s' ∧ ∀ M', Kept M M' → q (stateD C size r s') M'
def sd_behind_settle (C : Addr) : SpD := fun ds M q _ => ∃ (size : Int) (r : Rule) (s s' : St), ds = [stateD C size r s, deedD .settle] ∧ Fit size r s .settle s' ∧ ∀ M', Kept M M' → q (stateD C size r s') M'
def sd_behind_down (C : Addr) : SpD := fun ds M q _ => ∃ (size : Int) (r : Rule) (s s' : St) (x : Str), ds = [stateD C size r s, deedD (.down x)] ∧ Fit size r s (.down x) s' ∧ ∀ M', Kept M M' → q (stateD C size r s') M'
def sd_behind_up (C : Addr) : SpD := fun ds M q _ => ∃ (size : Int) (r : Rule) (s s' : St) (x : Str), ds = [stateD C size r s, deedD (.up x)] ∧ Fit size r s (.up x) s' ∧ ∀ M', Kept M M' → q (stateD C size r s') M'
def sd_behind_wipe (C : Addr) : SpD := fun ds M q _ => ∃ (size : Int) (r : Rule) (s s' : St) (x : Str), ds = [stateD C size r s, deedD (.wipe x)] ∧ Fit size r s (.wipe x) s' ∧ ∀ M', Kept M M' → q (stateD C size r s') M'
def sd_behind_repair (C : Addr) : SpD := fun ds M q _ => ∃ (size : Int) (r : Rule) (s s' : St) (t g : Str), ds = [stateD C size r s, deedD (.repair t g)] ∧ Fit size r s (.repair t g) s' ∧ ∀ M', Kept M M' → q (stateD C size r s') M'
def sd_behind (C : Addr) : SpD := fun ds M q _ => ∃ (size : Int) (r : Rule) (s s' : St) (d : Deed), ds = [stateD C size r s, deedD d] ∧ Fit size r s d s' ∧ ∀ M', Kept M M' → q (stateD C size r s') M'
def sd_states_of (C : Addr) : SpD := fun ds M q _ => ∃ (size : Int) (r : Rule) (hs : List Host) (des : List Deed) (ss : List St), ds = [ringD C size r hs, deedsT des] ∧ PlanOk size r hs des ss ∧ ∀ M', Kept M M' → q (statesT C size r ss) M'
def sd_Plan___init__ (C P : Addr) : SpD := fun ds M q _ => ∃ (c : Addr) (size : Int) (r : Rule) (hs : List Host) (des : List Deed) (ss : List St), ds = [.cel c, ringD C size r hs, deedsT des] ∧ M c = some (.ob P []) ∧ PlanOk size r hs des ss ∧ ∀ M', M' c = some (.ob P (planF C size r hs des ss)) → (∀ a x, M a = some x → a ≠ c → M' a = some x) → q .non M'
def sd_Plan__state (C P : Addr) : SpD := fun ds M q _ => ∃ (size : Int) (r : Rule) (hs : List Host) (des : List Deed) (ss : List St) (i : Nat) (s : St), ds = [planD C P size r hs des ss, .int i] ∧ PlanOk size r hs des ss ∧ ss[i]? = some s ∧ q (stateD C size r s) M
def sd_Plan_counting (C P : Addr) : SpD := fun ds M q _ => ∃ (size : Int) (r : Rule) (hs : List Host) (des : List Deed) (ss : List St) (i : Nat) (s : St), ds = [planD C P size r hs des ss, .int i] ∧ PlanOk size r hs des ss ∧ ss[i]? = some s ∧ q (ringD C size r s.now) M
def sd_Plan_keepers (C P : Addr) : SpD := fun ds M q _ => ∃ (size : Int) (r : Rule) (hs : List Host) (des : List Deed) (ss : List St) (i : Nat) (s : St) (p : Int), ds = [planD C P size r hs des ss, .int p, .int i] ∧ PlanOk size r hs des ss ∧ ss[i]? = some s ∧ 0 ≤ p ∧ p < size ∧ ∀ M', Kept M M' → q (strsT (keepF size r s.now p)) M'
def sd_Plan_pendings (C P : Addr) : SpD := fun ds M q _ => ∃ (size : Int) (r : Rule) (hs : List Host) (des : List Deed) (ss : List St) (i : Nat) (s : St) (p : Int), ds = [planD C P size r hs des ss, .int p, .int i] ∧ PlanOk size r hs des ss ∧ ss[i]? = some s ∧ 0 ≤ p ∧ p < size ∧ ∀ M', Kept M M' → q (strsT (pendF size r s p)) M'
def sd_right (C P : Addr) : SpD := fun ds M q _ => ∃ (k : Addr), ds = [.cel k] ∧ Kg M k 0 ∧ ∀ M', KeptB k M M' → q (.bl true) M'
def sd_law (C P : Addr) : SpD := fun ds M q _ => ∃ (ns : List Int), ds = [.lsf (ns.map D.int)] ∧ ns.length ≤ 63 ∧ (∀ n ∈ ns, Builtin.Int.intBits n ≤ 1048576) ∧ ∀ M', q (.bl true) M'
end L31
set_option maxRecDepth 100000
namespace L31
open PySem PySem.Spec PyProof.Rows L2 DL R
abbrev N_names : List Str := ["_law_ring_here", "_law_host"]
def db_names (C : Addr) : DS :=
    (dRet (dIf (dTst (dIsN (dVar 0))) (dLst dNil) (dLc (dIter (dOp rdIx (dVar 0) (dC (.int 6)))) (gdName 1) dYes (dOp rdIx (dVar 1) (dC (.int 0))) [1])))
abbrev N_is_form_of : List Str := ["value", "forms"]
def db_is_form_of (C : Addr) : DS :=
    (dSeq (dIfS (dOr (dNot (dTru (dIsi "tuple" (dVar 0)))) (dOr (dTst (dOp rdEq (dCB rdLen (dCons (dVar 0) dNil)) (dC (.int 0)))) (dNot (dTru (dIsi "str" (dOp rdIx (dVar 0) (dC (.int 0)))))))) (dRet (dC (.bl false))) dNext)
    (dRet (dOp (rdInT false) (dTup (dCons (dOp rdIx (dVar 0) (dC (.int 0))) (dCons (dCB rdLen (dCons (dVar 0) dNil)) dNil))) (dVar 1))))
abbrev N_marks : List Str := ["_law_purse_here", "_law_points_here", "_law_taken_here", "_law_many", "_law_found", "_law_k", "_law_mark", "_law_spare", "_law_each"]
def db_marks (C : Addr) : DS :=
    (dSeq (dSet 4 (dLstC dNil))
    (dSeq (dFor (dRng1 (dCons (dVar 3) dNil)) (gdName 5) (dSeq (dSet 6 (dCall 2 (sd_draw C) (dCons (dVar 0) (dCons (dVar 1) dNil))))
    (dIfS (dTst (dOp (rdIn true) (dVar 6) (dOp rdAdd (dVar 2) (dVar 4)))) (dExp (dApp (dVar 4) (dCons (dVar 6) dNil))) dNext)))
    (dSeq (dSet 7 (dLc (dRng1 (dCons (dOp rdAdd (dCB rdLen (dCons (dVar 2) dNil)) (dC (.int 1))) dNil)) (gdName 8) (dTst (dOp (rdIn true) (dVar 8) (dVar 2))) (dVar 8) [8]))
    (dRet (dCB rdTuple (dCons (dCB rdSortI (dCons (dIf (dTst (dOp rdNe (dVar 4) (dLst dNil))) (dVar 4) (dSl rdSl (dVar 7) dNo (dPart (dC (.int 1))))) dNil)) dNil))))))
abbrev N_changed : List Str := ["_law_now", "_law_deed", "_law_names_here", "_law_taken_here", "_law_both", "_law_rest", "_law_mark", "_law_host"]
def db_changed (C : Addr) : DS :=
    (dSeq (dAsg (dTup (dCons (dCall 1 (sd_names C) (dCons (dVar 0) dNil)) (dCons (dCall 1 (sd_taken C) (dCons (dOp rdIx (dVar 0) (dC (.int 6))) dNil)) dNil))) (gdTup 2 (gdCons (gdName 2) (gdCons (gdName 3) gdNil))))
    (dSeq (dIfS (dTst (dOp rdEq (dOp rdIx (dVar 1) (dC (.int 0))) (dC (.str "join")))) (dSeq (dSet 4 (dLc (dIter (dOp rdIx (dVar 1) (dC (.int 3)))) (gdName 6) (dTst (dOp (rdIn false) (dVar 6) (dVar 3))) (dVar 6) [6]))
    (dSeq (dIfS (dOr (dTst (dOp (rdIn false) (dOp rdIx (dVar 1) (dC (.int 1))) (dVar 2))) (dOr (dTst (dOp rdEq (dCB rdLen (dCons (dVar 2) dNil)) (dC (.int 12)))) (dTst (dOp rdNe (dVar 4) (dLst dNil))))) (dRet (dC .non)) dNext)
    (dRet (dOp rdAdd (dSl rdSl (dVar 0) dNo (dPart (dC (.int 6)))) (dLst (dCons (dOp rdAdd (dOp rdIx (dVar 0) (dC (.int 6))) (dTup (dCons (dCB rdTuple (dCons (dSl rdSl (dVar 1) (dPart (dC (.int 1))) dNo) dNil)) dNil))) dNil)))))) dNext)
    (dSeq (dSet 5 (dCB rdTuple (dCons (dLc (dIter (dOp rdIx (dVar 0) (dC (.int 6)))) (gdName 7) (dTst (dOp rdNe (dOp rdIx (dVar 7) (dC (.int 0))) (dOp rdIx (dVar 1) (dC (.int 1))))) (dVar 7) [7]) dNil)))
    (dRet (dIf (dAnd (dTst (dOp (rdIn false) (dOp rdIx (dVar 1) (dC (.int 1))) (dVar 2))) (dTst (dOp rdNe (dVar 5) (dTup dNil)))) (dOp rdAdd (dSl rdSl (dVar 0) dNo (dPart (dC (.int 6)))) (dLst (dCons (dVar 5) dNil))) (dC .non))))))
abbrev N_ring : List Str := ["_law_purse_here", "_law_points_here", "_law_most", "_law_many", "_law_taken_here", "_law_hosts_here", "_law_k", "_law_marks_here", "_law_numbers_here", "_law_words"]
def db_ring (C : Addr) : DS :=
    (dSeq (dAsg (dTup (dCons (dOp rdAdd (dC (.int 1)) (dCall 2 (sd_draw C) (dCons (dVar 0) (dCons (dC (.int 5)) dNil)))) (dCons (dLst dNil) (dCons (dLstC dNil) dNil)))) (gdTup 3 (gdCons (gdName 3) (gdCons (gdName 4) (gdCons (gdName 5) gdNil)))))
    (dSeq (dFor (dRng1 (dCons (dCB rdMin2 (dCons (dVar 3) (dCons (dVar 1) dNil))) dNil)) (gdName 6) (dSeq (dSet 7 (dCall 4 (sd_marks C) (dCons (dVar 0) (dCons (dVar 1) (dCons (dVar 4) (dCons (dOp rdAdd (dC (.int 1)) (dCall 2 (sd_draw C) (dCons (dVar 0) (dCons (dVar 2) dNil)))) dNil))))))
    (dSeq (dSet 4 (dOp rdAdd (dVar 4) (dCB rdList (dCons (dVar 7) dNil))))
    (dSeq (dExp (dApp (dVar 5) (dCons (dTup (dCons (dOp rdIx (dC (.str "abcdefgh")) (dVar 6)) (dCons (dCall 2 (sd_pick C) (dCons (dVar 0) (dCons (dLst (dCons (dC (.str "r1")) (dCons (dC (.str "r1")) (dCons (dC (.str "r2")) (dCons (dC (.str "r3")) dNil))))) dNil))) (dCons (dVar 7) dNil)))) dNil)))
    (dIfS (dTst (dOp rdGe (dCB rdLen (dCons (dVar 4) dNil)) (dVar 1))) dBrk dNext)))))
    (dSeq (dSet 3 (dOp rdAdd (dC (.int 1)) (dCall 2 (sd_draw C) (dCons (dVar 0) (dCons (dC (.int 4)) dNil)))))
    (dSeq (dSet 8 (dLc (dRng1 (dCons (dC (.int 2)) dNil)) (gdName 6) dYes (dOp rdAdd (dC (.int 1)) (dCall 2 (sd_draw C) (dCons (dVar 0) (dCons (dVar 3) dNil)))) [6]))
    (dSeq (dSet 9 (dLst (dCons (dCall 2 (sd_pick C) (dCons (dVar 0) (dCons (dLst (dCons (dC (.str "hosts")) (dCons (dC (.str "racks")) dNil))) dNil))) (dCons (dCall 2 (sd_pick C) (dCons (dVar 0) (dCons (dLst (dCons (dC (.str "plain")) (dCons (dC (.str "with")) dNil))) dNil))) dNil))))
    (dRet (dLst (dCons (dVar 1) (dCons (dVar 3) (dCons (dOp rdIx (dVar 9) (dC (.int 0))) (dCons (dOp rdIx (dVar 8) (dC (.int 0))) (dCons (dOp rdIx (dVar 8) (dC (.int 1))) (dCons (dOp rdIx (dVar 9) (dC (.int 1))) (dCons (dCB rdTuple (dCons (dVar 5) dNil)) dNil))))))))))))))
abbrev N_later : List Str := ["_law_stand", "_law_deed", "_law_now", "_law_after", "_law_downs", "_law_later_here", "_law_there", "_law_rest", "_law_side", "_law_fits", "_law_host"]
def db_later (C : Addr) : DS :=
    (dSeq (dAsg (dVar 0) (gdLst 3 (gdCons (gdName 2) (gdCons (gdName 3) (gdCons (gdName 4) gdNil)))))
    (dSeq (dIfS (dTst (dOp (rdIn false) (dOp rdIx (dVar 1) (dC (.int 0))) (dLst (dCons (dC (.str "join")) (dCons (dC (.str "leave")) dNil))))) (dSeq (dSet 5 (dIf (dTst (dIsN (dVar 3))) (dCall 2 (sd_changed C) (dCons (dVar 2) (dCons (dVar 1) dNil))) (dC .non)))
    (dRet (dIf (dTst (dIsN (dVar 5))) (dC .non) (dLst (dCons (dVar 2) (dCons (dVar 5) (dCons (dVar 4) dNil))))))) dNext)
    (dSeq (dIfS (dTst (dOp rdEq (dOp rdIx (dVar 1) (dC (.int 0))) (dC (.str "settle")))) (dSeq (dSet 6 (dCall 1 (sd_names C) (dCons (dVar 3) dNil)))
    (dSeq (dSet 7 (dLc (dIter (dVar 4)) (gdName 10) (dTst (dOp (rdIn false) (dVar 10) (dVar 6))) (dVar 10) [10]))
    (dRet (dIf (dTst (dIsN (dVar 3))) (dC .non) (dLst (dCons (dVar 3) (dCons (dC .non) (dCons (dVar 7) dNil)))))))) dNext)
    (dSeq (dIfS (dTst (dOp (rdIn false) (dOp rdIx (dVar 1) (dC (.int 0))) (dLst (dCons (dC (.str "copy")) (dCons (dC (.str "repair")) dNil))))) (dSeq (dSet 8 (dCall 1 (sd_names C) (dCons (dIf (dTst (dOp rdEq (dOp rdIx (dVar 1) (dC (.int 0))) (dC (.str "copy")))) (dVar 3) (dVar 2)) dNil)))
    (dSeq (dSet 9 (dAndV (dOp (rdIn false) (dOp rdIx (dVar 1) (dC (.int 1))) (dVar 8)) (dAndV (dOp (rdIn false) (dOp rdIx (dVar 1) (dC (.int 2))) (dCall 1 (sd_names C) (dCons (dVar 2) dNil))) (dOp rdNe (dOp rdIx (dVar 1) (dC (.int 1))) (dOp rdIx (dVar 1) (dC (.int 2)))))))
    (dRet (dIf (dAnd (dTru (dVar 9)) (dAnd (dTst (dOp (rdIn true) (dOp rdIx (dVar 1) (dC (.int 1))) (dVar 4))) (dTst (dOp (rdIn true) (dOp rdIx (dVar 1) (dC (.int 2))) (dVar 4))))) (dVar 0) (dC .non))))) dNext)
    (dSeq (dIfS (dTst (dOp (rdIn true) (dOp rdIx (dVar 1) (dC (.int 1))) (dOp rdAdd (dCall 1 (sd_names C) (dCons (dVar 2) dNil)) (dCall 1 (sd_names C) (dCons (dVar 3) dNil))))) (dRet (dC .non)) dNext)
    (dSeq (dIfS (dAnd (dTst (dOp rdNe (dOp rdIx (dVar 1) (dC (.int 0))) (dC (.str "wipe")))) (dTst (dOp rdNe (dOp rdEq (dOp rdIx (dVar 1) (dC (.int 0))) (dC (.str "up"))) (dOp (rdIn false) (dOp rdIx (dVar 1) (dC (.int 1))) (dVar 4))))) (dRet (dC .non)) dNext)
    (dSeq (dSet 7 (dLc (dIter (dVar 4)) (gdName 10) (dTst (dOp rdNe (dVar 10) (dOp rdIx (dVar 1) (dC (.int 1))))) (dVar 10) [10]))
    (dRet (dLst (dCons (dVar 2) (dCons (dVar 3) (dCons (dDGet (dDic3 "wipe" "up" "down" (dVar 4) (dVar 7) (dCB rdSortS (dCons (dOp rdAdd (dVar 7) (dLst (dCons (dOp rdIx (dVar 1) (dC (.int 1))) dNil))) dNil))) (dOp rdIx (dVar 1) (dC (.int 0)))) dNil))))))))))))
abbrev N_step : List Str := ["_law_purse_here", "_law_stand", "_law_now", "_law_after", "_law_downs", "_law_known", "_law_way", "_law_taken_here", "_law_marks_here", "_law_host", "_law_side"]
def db_step (C : Addr) : DS :=
    (dSeq (dAsg (dVar 1) (gdLst 3 (gdCons (gdName 2) (gdCons (gdName 3) (gdCons (gdName 4) gdNil)))))
    (dSeq (dSet 5 (dOp rdAdd (dOp rdAdd (dCall 1 (sd_names C) (dCons (dVar 2) dNil)) (dCall 1 (sd_names C) (dCons (dVar 3) dNil))) (dLst (dCons (dC (.str "n")) (dCons (dC (.str "m")) dNil)))))
    (dSeq (dSet 6 (dCall 2 (sd_draw C) (dCons (dVar 0) (dCons (dC (.int 12)) dNil))))
    (dSeq (dIfS (dTst (dOp rdLt (dVar 6) (dC (.int 2)))) (dSeq (dSet 7 (dCall 1 (sd_taken C) (dCons (dOp rdIx (dVar 2) (dC (.int 6))) dNil)))
    (dSeq (dSet 8 (dIf (dTst (dOp rdLt (dCB rdLen (dCons (dVar 7) dNil)) (dOp rdIx (dVar 2) (dC (.int 0))))) (dCall 4 (sd_marks C) (dCons (dVar 0) (dCons (dOp rdIx (dVar 2) (dC (.int 0))) (dCons (dVar 7) (dCons (dC (.int 2)) dNil))))) (dTup (dCons (dC (.int 0)) dNil))))
    (dSeq (dSet 9 (dCall 2 (sd_pick C) (dCons (dVar 0) (dCons (dLst (dCons (dC (.str "n")) (dCons (dC (.str "m")) (dCons (dC (.str "o")) (dCons (dOp rdIx (dVar 5) (dC (.int 0))) dNil))))) dNil))))
    (dRet (dTup (dCons (dC (.str "join")) (dCons (dVar 9) (dCons (dCall 2 (sd_pick C) (dCons (dVar 0) (dCons (dLst (dCons (dC (.str "r1")) (dCons (dC (.str "r2")) (dCons (dC (.str "r4")) dNil)))) dNil))) (dCons (dVar 8) dNil))))))))) dNext)
    (dSeq (dIfS (dTst (dOp rdEq (dVar 6) (dC (.int 2)))) (dRet (dTup (dCons (dC (.str "settle")) dNil))) dNext)
    (dSeq (dIfS (dTst (dOp rdEq (dVar 6) (dC (.int 3)))) (dRet (dTup (dCons (dC (.str "leave")) (dCons (dCall 2 (sd_pick C) (dCons (dVar 0) (dCons (dVar 5) dNil))) dNil)))) dNext)
    (dSeq (dIfS (dTst (dOp rdLt (dVar 6) (dC (.int 8)))) (dSeq (dSet 10 (dLstC (dCons (dCall 2 (sd_pick C) (dCons (dVar 0) (dCons (dVar 5) dNil))) (dCons (dCall 2 (sd_pick C) (dCons (dVar 0) (dCons (dVar 5) dNil))) dNil))))
    (dSeq (dIfS (dAnd (dTst (dNotN (dVar 3))) (dTst (dOp rdGt (dCall 2 (sd_draw C) (dCons (dVar 0) (dCons (dC (.int 3)) dNil))) (dC (.int 0))))) (dAsg (dCall 2 (sd_pick C) (dCons (dVar 0) (dCons (dOp rdAdd (dSl rdSl (dRevL (dCall 1 (sd_names C) (dCons (dVar 3) dNil))) dNo (dPart (dC (.int 2)))) (dCall 1 (sd_names C) (dCons (dVar 3) dNil))) dNil))) (gdSub (dVar 10) (dC (.int 0)))) dNext)
    (dRet (dTup (dCons (dCall 2 (sd_pick C) (dCons (dVar 0) (dCons (dLst (dCons (dC (.str "copy")) (dCons (dC (.str "copy")) (dCons (dC (.str "repair")) dNil)))) dNil))) (dCons (dOp rdIx (dVar 10) (dC (.int 0))) (dCons (dOp rdIx (dVar 10) (dC (.int 1))) dNil))))))) dNext)
    (dRet (dTup (dCons (dCall 2 (sd_pick C) (dCons (dVar 0) (dCons (dLst (dCons (dC (.str "down")) (dCons (dC (.str "up")) (dCons (dC (.str "up")) (dCons (dC (.str "wipe")) dNil))))) dNil))) (dCons (dCall 2 (sd_pick C) (dCons (dVar 0) (dCons (dOp rdAdd (dOp rdAdd (dVar 5) (dVar 4)) (dVar 4)) dNil))) dNil)))))))))))
abbrev N_Plan__state : List Str := ["self", "moment"]
def db_Plan__state (C P : Addr) : DS :=
    (dSeq (dIfS (dNot (dTru (dCall 3 (sd_is_from_to C) (dCons (dVar 1) (dCons (dC (.int 0)) (dCons (dCB rdLen (dCons (dFld P "_steps" (dVar 0)) dNil)) dNil)))))) dNever dNext)
    (dRet (dOp rdIx (dFld P "_states" (dVar 0)) (dVar 1))))
abbrev N_steps : List Str := ["_law_purse_here", "_law_ring_here", "_law_many", "_law_stands_here", "_law_found", "_law_turn", "_law_deed", "_law_later_here"]
def db_steps (C : Addr) : DS :=
    (dSeq (dPar2 3 4 (dCons (dLstC (dCons (dLst (dCons (dVar 1) (dCons (dC .non) (dCons (dLst dNil) dNil)))) dNil)) (dCons (dLstC dNil) dNil)))
    (dSeq (dFor (dRng1 (dCons (dVar 2) dNil)) (gdName 5) (dSeq (dSet 6 (dCall 2 (sd_step C) (dCons (dVar 0) (dCons (dOp rdIx (dVar 3) (dUn rdNeg (dC (.int 1)))) dNil))))
    (dSeq (dSet 7 (dCall 2 (sd_later C) (dCons (dOp rdIx (dVar 3) (dUn rdNeg (dC (.int 1)))) (dCons (dVar 6) dNil))))
    (dIfS (dTst (dNotN (dVar 7))) (dSeq (dExp (dApp (dVar 4) (dCons (dVar 6) dNil)))
    (dExp (dApp (dVar 3) (dCons (dVar 7) dNil)))) dNext))))
    (dRet (dTup (dCons (dVar 4) (dCons (dVar 3) dNil))))))
abbrev N_can_give : List Str := ["state", "taker", "giver", "ring", "_", "down"]
def db_can_give (C : Addr) : DS :=
    (dSeq (dAsg (dVar 0) (gdTup 3 (gdCons (gdName 3) (gdCons (gdName 4) (gdCons (gdName 5) gdNil)))))
    (dRet (dAndV (dOp (rdInO false C (sd_Ring___contains__ C)) (dVar 2) (dVar 3)) (dAndV (dOp rdNe (dVar 2) (dVar 1)) (dAndV (dOp (rdIn true) (dVar 2) (dVar 5)) (dOp (rdIn true) (dVar 1) (dVar 5)))))))
abbrev N_is_known : List Str := ["state", "name", "ring", "coming", "_"]
def db_is_known (C : Addr) : DS :=
    (dSeq (dAsg (dVar 0) (gdTup 3 (gdCons (gdName 2) (gdCons (gdName 3) (gdCons (gdName 4) gdNil)))))
    (dRet (dOrV (dOp (rdInO false C (sd_Ring___contains__ C)) (dVar 1) (dVar 2)) (dAndV (dNotN (dVar 3)) (dOp (rdInO false C (sd_Ring___contains__ C)) (dVar 1) (dVar 3))))))
abbrev N_behind_settle : List Str := ["state", "step", "_", "coming", "down", "name"]
def db_behind_settle (C : Addr) : DS :=
    (dSeq (dAsg (dVar 0) (gdTup 3 (gdCons (gdName 2) (gdCons (gdName 3) (gdCons (gdName 4) gdNil)))))
    (dSeq (dIfS (dTst (dIsN (dVar 3))) (dRet (dC .non)) dNext)
    (dRet (dTup (dCons (dVar 3) (dCons (dC .non) (dCons (dCB rdTuple (dCons (dLc (dIter (dVar 4)) (gdName 5) (dTst (dOp (rdInO false C (sd_Ring___contains__ C)) (dVar 5) (dVar 3))) (dVar 5) [5]) dNil)) dNil)))))))
abbrev N_Plan_counting : List Str := ["self", "moment"]
def db_Plan_counting (C P : Addr) : DS :=
    (dRet (dOp rdIx (dMeth P "_state" 2 (sd_Plan__state C P) (dVar 0) (dCons (dVar 1) dNil)) (dC (.int 0))))
abbrev N_behind_copy : List Str := ["state", "step", "_", "coming", "taker", "giver"]
def db_behind_copy (C : Addr) : DS :=
    (dSeq (dAsg (dVar 0) (gdTup 3 (gdCons (gdName 2) (gdCons (gdName 3) (gdCons (gdName 2) gdNil)))))
    (dSeq (dAsg (dVar 1) (gdTup 3 (gdCons (gdName 2) (gdCons (gdName 4) (gdCons (gdName 5) gdNil)))))
    (dSeq (dIfS (dOr (dTst (dIsN (dVar 3))) (dOr (dTst (dOp (rdInO true C (sd_Ring___contains__ C)) (dVar 4) (dVar 3))) (dNot (dTru (dCall 3 (sd_can_give C) (dCons (dVar 0) (dCons (dVar 4) (dCons (dVar 5) dNil)))))))) (dRet (dC .non)) dNext)
    (dRet (dVar 0)))))
abbrev N_behind_down : List Str := ["state", "step", "ring", "coming", "down"]
def db_behind_down (C : Addr) : DS :=
    (dSeq (dAsg (dVar 0) (gdTup 3 (gdCons (gdName 2) (gdCons (gdName 3) (gdCons (gdName 4) gdNil)))))
    (dSeq (dIfS (dOr (dNot (dTru (dCall 2 (sd_is_known C) (dCons (dVar 0) (dCons (dOp rdIx (dVar 1) (dC (.int 1))) dNil))))) (dTst (dOp (rdIn false) (dOp rdIx (dVar 1) (dC (.int 1))) (dVar 4)))) (dRet (dC .non)) dNext)
    (dRet (dTup (dCons (dVar 2) (dCons (dVar 3) (dCons (dCB rdTuple (dCons (dCB rdSortS (dCons (dOp rdAdd (dVar 4) (dSl rdSl (dVar 1) (dPart (dC (.int 1))) dNo)) dNil)) dNil)) dNil)))))))
abbrev N_behind_repair : List Str := ["state", "step", "_", "taker", "giver"]
def db_behind_repair (C : Addr) : DS :=
    (dSeq (dAsg (dVar 1) (gdTup 3 (gdCons (gdName 2) (gdCons (gdName 3) (gdCons (gdName 4) gdNil)))))
    (dSeq (dIfS (dOr (dTst (dOp (rdInO true C (sd_Ring___contains__ C)) (dVar 3) (dOp rdIx (dVar 0) (dC (.int 0))))) (dNot (dTru (dCall 3 (sd_can_give C) (dCons (dVar 0) (dCons (dVar 3) (dCons (dVar 4) dNil))))))) (dRet (dC .non)) dNext)
    (dRet (dVar 0))))
abbrev N_behind_up : List Str := ["state", "step", "ring", "coming", "down", "name"]
def db_behind_up (C : Addr) : DS :=
    (dSeq (dAsg (dVar 0) (gdTup 3 (gdCons (gdName 2) (gdCons (gdName 3) (gdCons (gdName 4) gdNil)))))
    (dSeq (dIfS (dOr (dNot (dTru (dCall 2 (sd_is_known C) (dCons (dVar 0) (dCons (dOp rdIx (dVar 1) (dC (.int 1))) dNil))))) (dTst (dOp (rdIn true) (dOp rdIx (dVar 1) (dC (.int 1))) (dVar 4)))) (dRet (dC .non)) dNext)
    (dRet (dTup (dCons (dVar 2) (dCons (dVar 3) (dCons (dCB rdTuple (dCons (dLc (dIter (dVar 4)) (gdName 5) (dTst (dOp rdNe (dVar 5) (dOp rdIx (dVar 1) (dC (.int 1))))) (dVar 5) [5]) dNil)) dNil)))))))
abbrev N_behind_wipe : List Str := ["state", "step"]
def db_behind_wipe (C : Addr) : DS :=
    (dSeq (dIfS (dNot (dTru (dCall 2 (sd_is_known C) (dCons (dVar 0) (dCons (dOp rdIx (dVar 1) (dC (.int 1))) dNil))))) (dRet (dC .non)) dNext)
    (dRet (dVar 0)))
abbrev N_Plan_keepers : List Str := ["self", "point", "moment", "ring"]
def db_Plan_keepers (C P : Addr) : DS :=
    (dSeq (dExp (dCall 2 (sd_check_point C) (dCons (dFld P "_ring" (dVar 0)) (dCons (dVar 1) dNil))))
    (dSeq (dSet 3 (dMeth P "counting" 2 (sd_Plan_counting C P) (dVar 0) (dCons (dVar 2) dNil)))
    (dRet (dMeth C "keepers" 2 (sd_Ring_keepers C) (dVar 3) (dCons (dVar 1) dNil)))))
abbrev N_Plan_pendings : List Str := ["self", "point", "moment", "ring", "coming", "_", "keepers", "name"]
def db_Plan_pendings (C P : Addr) : DS :=
    (dSeq (dExp (dCall 2 (sd_check_point C) (dCons (dFld P "_ring" (dVar 0)) (dCons (dVar 1) dNil))))
    (dSeq (dAsg (dMeth P "_state" 2 (sd_Plan__state C P) (dVar 0) (dCons (dVar 2) dNil)) (gdTup 3 (gdCons (gdName 3) (gdCons (gdName 4) (gdCons (gdName 5) gdNil)))))
    (dSeq (dIfS (dTst (dIsN (dVar 4))) (dRet (dTup dNil)) dNext)
    (dSeq (dSet 6 (dMeth C "keepers" 2 (sd_Ring_keepers C) (dVar 3) (dCons (dVar 1) dNil)))
    (dRet (dCB rdTuple (dCons (dLc (dIter (dMeth C "keepers" 2 (sd_Ring_keepers C) (dVar 4) (dCons (dVar 1) dNil))) (gdName 7) (dTst (dOp (rdIn true) (dVar 7) (dVar 6))) (dVar 7) [7]) dNil)))))))
abbrev N_behind_join : List Str := ["state", "step", "ring", "coming", "down", "_", "name", "rack", "marks"]
def db_behind_join (C : Addr) : DS :=
    (dSeq (dAsg (dVar 0) (gdTup 3 (gdCons (gdName 2) (gdCons (gdName 3) (gdCons (gdName 4) gdNil)))))
    (dSeq (dAsg (dVar 1) (gdTup 4 (gdCons (gdName 5) (gdCons (gdName 6) (gdCons (gdName 7) (gdCons (gdName 8) gdNil))))))
    (dSeq (dIfS (dTst (dNotN (dVar 3))) (dRet (dC .non)) dNext)
    (dTryN (dRet (dTup (dCons (dVar 2) (dCons (dMeth C "joined" 4 (sd_Ring_joined C) (dVar 2) (dCons (dVar 6) (dCons (dVar 7) (dCons (dVar 8) dNil)))) (dCons (dVar 4) dNil)))))))))
abbrev N_behind_leave : List Str := ["state", "step", "ring", "coming", "down"]
def db_behind_leave (C : Addr) : DS :=
    (dSeq (dAsg (dVar 0) (gdTup 3 (gdCons (gdName 2) (gdCons (gdName 3) (gdCons (gdName 4) gdNil)))))
    (dSeq (dIfS (dTst (dNotN (dVar 3))) (dRet (dC .non)) dNext)
    (dTryN (dRet (dTup (dCons (dVar 2) (dCons (dMeth C "left" 2 (sd_Ring_left C) (dVar 2) (dCons (dOp rdIx (dVar 1) (dC (.int 1))) dNil)) (dCons (dVar 4) dNil))))))))
abbrev N_behind : List Str := ["state", "step", "action"]
def db_behind (C : Addr) : DS :=
    (dSeq (dIfS (dNot (dTru (dCall 2 (sd_is_form_of C) (dCons (dVar 1) (dCons (dC (.tup [.tup [.str "join", .int 4], .tup [.str "leave", .int 2], .tup [.str "copy", .int 3], .tup [.str "settle", .int 1], .tup [.str "down", .int 2], .tup [.str "up", .int 2], .tup [.str "wipe", .int 2], .tup [.str "repair", .int 3]])) dNil))))) (dRet (dC .non)) dNext)
    (dDisp 2 2 [("join", sd_behind_join C), ("leave", sd_behind_leave C), ("copy", sd_behind_copy C), ("settle", sd_behind_settle C), ("down", sd_behind_down C), ("up", sd_behind_up C), ("wipe", sd_behind_wipe C), ("repair", sd_behind_repair C)] (dOp rdIx (dVar 1) (dC (.int 0))) (dCons (dVar 0) (dCons (dVar 1) dNil))))
abbrev N_states_of : List Str := ["ring", "steps", "states", "index", "step", "state"]
def db_states_of (C : Addr) : DS :=
    (dSeq (dIfS (dNot (dTru (dIsi "tuple" (dVar 1)))) dNever dNext)
    (dSeq (dSet 2 (dLstC (dCons (dTup (dCons (dVar 0) (dCons (dC .non) (dCons (dTup dNil) dNil)))) dNil)))
    (dSeq (dFor (dEnum (dCons (dVar 1) dNil)) (gdTup 2 (gdCons (gdName 3) (gdCons (gdName 4) gdNil))) (dSeq (dSet 5 (dCall 2 (sd_behind C) (dCons (dOp rdIx (dVar 2) (dVar 3)) (dCons (dVar 4) dNil))))
    (dSeq (dIfS (dOr (dTst (dOp rdEq (dVar 3) (dC (.int 24)))) (dTst (dIsN (dVar 5)))) dNever dNext)
    (dExp (dApp (dVar 2) (dCons (dVar 5) dNil))))))
    (dRet (dCB rdTuple (dCons (dVar 2) dNil))))))
abbrev N_Plan___init__ : List Str := ["self", "ring", "steps"]
def db_Plan___init__ (C P : Addr) : DS :=
    (dSeq (dExp (dCall 1 (sd_check_ring C) (dCons (dVar 1) dNil)))
    (dSeq (dFSet P "_states" (dVar 0) (dCall 2 (sd_states_of C) (dCons (dVar 1) (dCons (dVar 2) dNil))))
    (dSeq (dFSet P "_ring" (dVar 0) (dVar 1))
    (dFSet P "_steps" (dVar 0) (dVar 2)))))
abbrev N_right : List Str := ["_law_purse_here", "_law_ring_here", "_law_found", "_law_stands_here", "_law_mine", "_law_k", "_law_now", "_law_after", "_law_downs", "_law_at", "_law_own", "_law_rest", "_law_told", "_law_back", "_law_host"]
def db_right (C P : Addr) : DS :=
    (dSeq (dSet 1 (dCall 3 (sd_ring C) (dCons (dVar 0) (dCons (dOp rdAdd (dC (.int 5)) (dCall 2 (sd_draw C) (dCons (dVar 0) (dCons (dC (.int 26)) dNil)))) (dCons (dC (.int 3)) dNil)))))
    (dSeq (dAsg (dCall 3 (sd_steps C) (dCons (dVar 0) (dCons (dVar 1) (dCons (dC (.int 16)) dNil)))) (gdTup 2 (gdCons (gdName 2) (gdCons (gdName 3) gdNil))))
    (dSeq (dSet 4 (dMake P 3 (sd_Plan___init__ C P) (dCons (dCall 1 (sd_mint C) (dCons (dVar 1) dNil)) (dCons (dCB rdTuple (dCons (dVar 2) dNil)) dNil))))
    (dSeq (dFor (dRng1 (dCons (dCB rdLen (dCons (dVar 3) dNil)) dNil)) (gdName 5) (dSeq (dAsg (dOp rdIx (dVar 3) (dVar 5)) (gdLst 3 (gdCons (gdName 6) (gdCons (gdName 7) (gdCons (gdName 8) gdNil)))))
    (dFor (dRng1 (dCons (dOp rdIx (dVar 1) (dC (.int 0))) dNil)) (gdName 9) (dSeq (dAsg (dTup (dCons (dCall 2 (sd_keepers C) (dCons (dVar 6) (dCons (dVar 9) dNil))) (dCons (dTup dNil) dNil))) (gdTup 2 (gdCons (gdName 10) (gdCons (gdName 11) gdNil))))
    (dSeq (dIfS (dTst (dNotN (dVar 7))) (dSet 11 (dCB rdTuple (dCons (dLc (dIter (dCall 2 (sd_keepers C) (dCons (dVar 7) (dCons (dVar 9) dNil)))) (gdName 14) (dTst (dOp (rdIn true) (dVar 14) (dVar 10))) (dVar 14) [14]) dNil))) dNext)
    (dSeq (dSet 12 (dLst (dCons (dMeth P "keepers" 3 (sd_Plan_keepers C P) (dVar 4) (dCons (dVar 9) (dCons (dVar 5) dNil))) (dCons (dMeth P "pendings" 3 (sd_Plan_pendings C P) (dVar 4) (dCons (dVar 9) (dCons (dVar 5) dNil))) dNil))))
    (dSeq (dSet 13 (dLst (dCons (dMethP P "keepers" 3 ["moment", "point"] [1, 0] (sd_Plan_keepers C P) (dVar 4) (dCons (dVar 5) (dCons (dVar 9) dNil))) (dCons (dMethP P "pendings" 3 ["moment", "point"] [1, 0] (sd_Plan_pendings C P) (dVar 4) (dCons (dVar 5) (dCons (dVar 9) dNil))) dNil))))
    (dIfS (dOr (dTst (dOp rdNe (dCB rdRepr1 (dCons (dLst (dCons (dVar 12) (dCons (dVar 13) dNil))) dNil)) (dCB rdRepr1 (dCons (dLst (dCons (dLst (dCons (dVar 10) (dCons (dVar 11) dNil))) (dCons (dLst (dCons (dVar 10) (dCons (dVar 11) dNil))) dNil))) dNil)))) (dTst (dOp rdGt (dCB rdLen (dCons (dVar 11) dNil)) (dC (.int 1))))) (dRet (dC (.bl false))) dNext))))))))
    (dRet (dC (.bl true)))))))
abbrev N_law : List Str := ["_law_script", "_law_k"]
def db_law (C P : Addr) : DS :=
    (dSeq (dFor (dRng1 (dCons (dCB rdMax2 (dCons (dC (.int 2)) (dCons (dCB rdMin2 (dCons (dCB rdLen (dCons (dVar 0) dNil)) (dCons (dC (.int 4)) dNil))) dNil))) dNil)) (gdName 1) (dIfS (dNot (dTru (dCall 1 (sd_right C P) (dCons (dCall 2 (sd_purse C) (dCons (dVar 0) (dCons (dVar 1) dNil))) dNil)))) (dRet (dC (.bl false))) dNext))
    (dRet (dC (.bl true))))
end L31
set_option maxRecDepth 100000
set_option maxHeartbeats 4000000
namespace L31
open PySem PySem.Spec PyProof.Rows L2 DL R
/-- what the names of the module stand for -/
structure Tx (K : PySem.W.Frag) (mg : Str → Option Value) (C P : Addr) : Prop where
  abs : mg "abs" = none
  all : mg "all" = none
  any : mg "any" = none
  bool : mg "bool" = none
  dict : mg "dict" = none
  divmod : mg "divmod" = none
  enumerate : mg "enumerate" = none
  int : mg "int" = none
  isinstance : mg "isinstance" = none
  len : mg "len" = none
  list : mg "list" = none
  max : mg "max" = none
  min : mg "min" = none
  range : mg "range" = none
  repr : mg "repr" = none
  sorted : mg "sorted" = none
  str : mg "str" = none
  tuple : mg "tuple" = none
  zip : mg "zip" = none
  c_DIGITS : ∃ t, mg "DIGITS" = some (.str "0123456789" t)
  c_FORMS : ∃ a, mg "FORMS" = some (.ref a) ∧ ∀ H, Dn K H (.ref a) (.tup [.tup [.str "join", .int 4], .tup [.str "leave", .int 2], .tup [.str "copy", .int 3], .tup [.str "settle", .int 1], .tup [.str "down", .int 2], .tup [.str "up", .int 2], .tup [.str "wipe", .int 2], .tup [.str "repair", .int 3]])
  c_LETTERS : ∃ t, mg "LETTERS" = some (.str "abcdefghijklmnopqrstuvwxyz" t)
  c_MOST_FACTOR : ∃ t, mg "MOST_FACTOR" = some (.int 5 t)
  c_MOST_HOSTS : ∃ t, mg "MOST_HOSTS" = some (.int 12 t)
  c_MOST_MARKS : ∃ t, mg "MOST_MARKS" = some (.int 16 t)
  c_MOST_POINTS : ∃ t, mg "MOST_POINTS" = some (.int 1000000000000000000 t)
  c_MOST_SIGNS : ∃ t, mg "MOST_SIGNS" = some (.int 8 t)
  c_MOST_STEPS : ∃ t, mg "MOST_STEPS" = some (.int 24 t)
  c_PENDINGS : ∃ a, mg "PENDINGS" = some (.ref a) ∧ ∀ H, SqT K H a [V.str "plain", V.str "with"]
  c_SPREADS : ∃ a, mg "SPREADS" = some (.ref a) ∧ ∀ H, SqT K H a [V.str "hosts", V.str "racks"]
  isC : OwnI K C
  g_Ring : mg "Ring" = some (.ref C)
  cRing : Cls K C
  cPlan : Cls K P
  na : ∀ f : Str, f ∈ (["_points", "_factor", "_spread", "_write", "_read_number", "_pending", "_hosts", "__bool__"] : List Str) → NoAttr K C f
  naP : ∀ f : Str, f ∈ (["_states", "_ring", "_steps"] : List Str) → NoAttr K P f
theorem pd_cttup {X : Cx} {W : WX} {x : Str} {d : D} {pos : Pos} (h : ∃ a, X.mg x = some (.ref a) ∧ ∀ H, Dn X.K H (.ref a) d) (hg : Gl X x := by rfl) (hd : (x == ("__debug__" : Str)) = false := by decide) : PD X W (.Name x pos) (dC d) := by
  obtain ⟨a, h, hs⟩ := h
  exact pd_of_tC (v := .ref a) (pe_glob hg h rfl hd) fun H => hs H
theorem pd_cint {X : Cx} {W : WX} {x : Str} {i : Int} {pos : Pos} (h : ∃ t, X.mg x = some (.int i t)) (hg : Gl X x := by rfl) (hd : (x == ("__debug__" : Str)) = false := by decide) : PD X W (.Name x pos) (dC (.int i)) := by
  obtain ⟨t, h⟩ := h
  exact pd_of_tC (v := .int i) (pe_glob hg h ⟨t, rfl⟩ hd) fun _ => .int i
theorem pd_cstr {X : Cx} {W : WX} {x i : Str} {pos : Pos} (h : ∃ t, X.mg x = some (.str i t)) (hg : Gl X x := by rfl) (hd : (x == ("__debug__" : Str)) = false := by decide) : PD X W (.Name x pos) (dC (.str i)) := by
  obtain ⟨t, h⟩ := h
  exact pd_of_tC (v := .str i) (pe_glob hg h ⟨t, rfl⟩ hd) fun _ => .str i
theorem pd_ctup {X : Cx} {W : WX} {x : Str} {i j : Str} {pos : Pos} (h : ∃ a, X.mg x = some (.ref a) ∧ ∀ H, SqT X.K H a [V.str i, V.str j]) (hg : Gl X x := by rfl) (hd : (x == ("__debug__" : Str)) = false := by decide) : PD X W (.Name x pos) (dC (.tup [.str i, .str j])) := by
  obtain ⟨a, h, hs⟩ := h
  exact pd_of_tC (v := .ref a) (pe_glob hg h rfl hd) fun H => .tup (hs H) (.cons (.str i) (.cons (.str j) .nil))
theorem hu65_of {A : Around} {k : Nat} (hr : Room k A) : A.units + 65 < cLine := by have := hr.un; omega
theorem hu2_of {A : Around} {k : Nat} (hr : Room k A) : A.units + 200 < cLine := by have := hr.un; omega
abbrev P_purse : List Str := ["_law_script", "_law_k"]
theorem sc_purse : FnScope N_purse P_purse (defScope s_purse) := ⟨rfl, rfl, rfl, by decide +kernel, rfl, by decide +kernel, by decide +kernel⟩
theorem ok_purse {P_ : Program} {w : World} {K : PySem.W.Frag} {mg : Str → Option Value} {base : Heap} {C P f : Addr} {fd : FuncData} (T : Tx K mg C P) 
    (F : FunD K "_law_purse" "_law_purse" (defArgs s_purse) (defBody s_purse) (defScope s_purse) [] [] f fd) (hk : Keeps N_purse 2 (sd_purse C) (db_purse C)) : FnOk P_ w K mg base (L2.CX P_ w) 1 f fd P_purse (spOf K 2 (sd_purse C)) := 
  okD F sc_purse rfl (fun cdv A fr s H E hr => (bd_cons (sd_if (td_cmp opd_lt (vr 1) (pd_callB (cd_len) (by rfl) T.len (by decide +kernel) (ad_cons (vr 0) ad_nil)) (nomark _)) (bd_cons (sd_set 2 sc_purse.nd (pd_ix ixd (vr 0) (vr 1) (fun _ _ => rfl)))
      (bd_cons (sd_set 3 sc_purse.nd (pd_if (td_w (wd_or (td_cmp opd_lt (vr 2) pd_int (nomark _)) (wd_or1 (td_cmp opd_ge (vr 2) (pd_op opd_pow pd_int pd_int) (nomark _))))) (pd_callB (cd_abs) (by rfl) T.abs (by decide +kernel) (ad_cons (vr 2) ad_nil)) pd_int))
      (bd_one (sd_ret (pd_lstC (ad_cons (vr 3) (ad_cons (pd_op opd_mod (pd_callTy (cd_int) (by rfl) T.int (by decide +kernel) (ad_cons (pd_op opd_add (pd_op opd_add (pd_op opd_mul (vr 2) pd_int) (pd_op opd_mul pd_int (vr 1))) pd_int) ad_nil)) pd_int) (ad_cons pd_int ad_nil)))))))) bd_nil)
      (bd_cons (sd_set 4 sc_purse.nd (pd_op opd_add (pd_op opd_mul pd_int (vr 1)) pd_int))
      (bd_cons (sd_for poF rfl (id_seq (pd_slice sld (vr 0) od_no (od_some pd_int))) (gd_name (i := 2) sc_purse.nd) (bd_one (sd_set 4 sc_purse.nd (pd_op opd_mod (pd_callTy (cd_int) (by rfl) T.int (by decide +kernel) (ad_cons (pd_op opd_add (pd_op opd_mul (vr 4) pd_int) (vr 2)) ad_nil)) pd_int))))
      (bd_one (sd_ret (pd_lstC (ad_cons pd_int (ad_cons (vr 4) (ad_cons pd_int ad_nil)))))))))) hk
abbrev P_draw : List Str := ["_law_purse_here", "_law_size"]
theorem sc_draw : FnScope N_draw P_draw (defScope s_draw) := ⟨rfl, rfl, rfl, by decide +kernel, rfl, by decide +kernel, by decide +kernel⟩
theorem ok_draw {P_ : Program} {w : World} {K : PySem.W.Frag} {mg : Str → Option Value} {base : Heap} {C P f : Addr} {fd : FuncData} (T : Tx K mg C P) 
    (F : FunD K "_law_draw" "_law_draw" (defArgs s_draw) (defBody s_draw) (defScope s_draw) [] [] f fd) (hk : Keeps N_draw 2 (sd_draw C) (db_draw C)) : FnOk P_ w K mg base (L2.CX P_ w) 1 f fd P_draw (spOf K 2 (sd_draw C)) := 
  okD F sc_draw rfl (fun cdv A fr s H E hr => (bd_cons (sd_par2 2 3 rfl sc_draw.nd (ad_cons (pd_ix ixd (vr 0) pd_int (fun _ _ => rfl)) (ad_cons (pd_op opd_add (pd_op opd_mod (pd_callTy (cd_int) (by rfl) T.int (by decide +kernel) (ad_cons (pd_ix ixd (vr 0) pd_int (fun _ _ => rfl)) ad_nil)) pd_int) pd_int) ad_nil)))
      (bd_cons (sd_asg (pd_op opd_add (pd_ix ixd (vr 0) pd_int (fun _ _ => rfl)) pd_int) (gd_sub (vr 0) pd_int))
      (bd_cons (sd_asg (pd_op opd_mod (pd_callTy (cd_int) (by rfl) T.int (by decide +kernel) (ad_cons (pd_op opd_add (pd_op opd_add (pd_op opd_mul (vr 2) (vr 3)) (pd_op opd_mul pd_int (pd_ix ixd (vr 0) pd_int (fun _ _ => rfl)))) pd_int) ad_nil)) pd_int) (gd_sub (vr 0) pd_int))
      (bd_cons (sd_if (td_cmp opd_gt (pd_ix ixd (vr 0) pd_int (fun _ _ => rfl)) pd_int (nomark _)) (bd_cons (sd_asg (pd_callB (cd_divmod) (by rfl) T.divmod (by decide +kernel) (ad_cons (pd_ix ixd (vr 0) pd_int (fun _ _ => rfl)) (ad_cons (vr 1) ad_nil))) (gd_tup (n := 2) rfl (gds_cons (gd_sub (vr 0) pd_int) (gds_cons (gd_name (i := 4) sc_draw.nd) gds_nil))))
      (bd_one (sd_ret (vr 4)))) bd_nil)
      (bd_one (sd_ret (pd_op opd_mod (pd_callTy (cd_int) (by rfl) T.int (by decide +kernel) (ad_cons (pd_op opd_div (pd_ix ixd (vr 0) pd_int (fun _ _ => rfl)) pd_int) ad_nil)) (vr 1))))))))) hk
abbrev P_walk : List Str := ["_law_ring_here", "_law_at"]
theorem sc_walk : FnScope N_walk P_walk (defScope s_walk) := ⟨rfl, rfl, rfl, by decide +kernel, rfl, by decide +kernel, by decide +kernel⟩
theorem ok_walk {P_ : Program} {w : World} {K : PySem.W.Frag} {mg : Str → Option Value} {base : Heap} {C P f : Addr} {fd : FuncData} (T : Tx K mg C P) 
    (F : FunD K "_law_walk" "_law_walk" (defArgs s_walk) (defBody s_walk) (defScope s_walk) [] [] f fd) (hk : Keeps N_walk 2 (sd_walk C) (db_walk C)) : FnOk P_ w K mg base (L2.CX P_ w) 1 f fd P_walk (spOf K 2 (sd_walk C)) := 
  okD F sc_walk rfl (fun cdv A fr s H E hr => (bd_cons (sd_set 2 sc_walk.nd (pd_lstC ad_nil))
      (bd_cons (sd_for poF rfl (id_seq (pd_ix ixd (vr 0) pd_int (fun _ _ => rfl))) (gd_tup (n := 3) rfl (gds_cons (gd_name (i := 3) sc_walk.nd) (gds_cons (gd_name (i := 4) sc_walk.nd) (gds_cons (gd_name (i := 5) sc_walk.nd) gds_nil)))) (bd_one (sd_expr (pd_app (vr 2) (ad_cons (pd_tup (ad_cons (pd_callB (cd_minL rfl) (by rfl) T.min (by decide +kernel) (ad_cons (pd_lc (own := [("_law_mark", 6)]) rfl sc_walk.nd (id_seq (vr 5)) (blkOk_by (N := N_walk) (sc := (defScope s_walk)) (by decide +kernel)) (fun _ _ _ _ _ => (gw_name (i := 6) sc_walk.nd)) (fun _ _ _ _ _ => tsd_nil) (fun _ _ _ _ _ => (pd_op opd_mod (pd_callTy (cd_int) (by rfl) T.int (by decide +kernel) (ad_cons (pd_op opd_sub (vr 6) (vr 1)) ad_nil)) (pd_ix ixd (vr 0) pd_int (fun _ _ => rfl))))) ad_nil)) (ad_cons (vr 3) ad_nil))) ad_nil)))))
      (bd_one (sd_ret (pd_lc (own := [("_law_far", 7), ("_law_host", 3)]) rfl sc_walk.nd (id_seq (pd_callB (cd_sortP) (by rfl) T.sorted (by decide +kernel) (ad_cons (vr 2) ad_nil))) (blkOk_by (N := N_walk) (sc := (defScope s_walk)) (by decide +kernel)) (fun _ _ _ _ _ => (gw_tup (n := 2) rfl (gws_cons (gw_name (i := 7) sc_walk.nd) (gws_cons (gw_name (i := 3) sc_walk.nd) gws_nil)))) (fun _ _ _ _ _ => tsd_nil) (fun _ _ _ _ _ => (vr 3)))))))) hk
abbrev P_is_ascending : List Str := ["row"]
theorem sc_is_ascending : FnScope N_is_ascending P_is_ascending (defScope s_is_ascending) := ⟨rfl, rfl, rfl, by decide +kernel, rfl, by decide +kernel, by decide +kernel⟩
theorem ok_is_ascending {P_ : Program} {w : World} {K : PySem.W.Frag} {mg : Str → Option Value} {base : Heap} {C P f : Addr} {fd : FuncData} (T : Tx K mg C P) 
    (F : FunD K "is_ascending" "is_ascending" (defArgs s_is_ascending) (defBody s_is_ascending) (defScope s_is_ascending) [] [] f fd) (hk : Keeps N_is_ascending 1 (sd_is_ascending C) (db_is_ascending C)) : FnOk P_ w K mg base (L2.CX P_ w) 1 f fd P_is_ascending (spOf K 1 (sd_is_ascending C)) := 
  okD F sc_is_ascending rfl (fun cdv A fr s H E hr => (bd_one (sd_ret (pd_callB (cd_all rfl) (by rfl) T.all (by decide +kernel) (ad_cons (pd_lc (own := [("one", 1), ("other", 2)]) rfl sc_is_ascending.nd (id_zip (by rfl) T.zip (ad_cons (vr 0) (ad_cons (pd_slice sld (vr 0) (od_some pd_int) od_no) ad_nil))) (blkOk_by (N := N_is_ascending) (sc := (defScope s_is_ascending)) (by decide +kernel)) (fun _ _ _ _ _ => (gw_tup (n := 2) rfl (gws_cons (gw_name (i := 1) sc_is_ascending.nd) (gws_cons (gw_name (i := 2) sc_is_ascending.nd) gws_nil)))) (fun _ _ _ _ _ => tsd_nil) (fun _ _ _ _ _ => (pd_cmp opd_lt (vr 1) (vr 2) (nomark _)))) ad_nil))))) hk
abbrev P_is_whole : List Str := ["value"]
theorem sc_is_whole : FnScope N_is_whole P_is_whole (defScope s_is_whole) := ⟨rfl, rfl, rfl, by decide +kernel, rfl, by decide +kernel, by decide +kernel⟩
theorem ok_is_whole {P_ : Program} {w : World} {K : PySem.W.Frag} {mg : Str → Option Value} {base : Heap} {C P f : Addr} {fd : FuncData} (T : Tx K mg C P) 
    (F : FunD K "is_whole" "is_whole" (defArgs s_is_whole) (defBody s_is_whole) (defScope s_is_whole) [] [] f fd) (hk : Keeps N_is_whole 1 (sd_is_whole C) (db_is_whole C)) : FnOk P_ w K mg base (L2.CX P_ w) 1 f fd P_is_whole (spOf K 1 (sd_is_whole C)) := 
  okD F sc_is_whole rfl (fun cdv A fr s H E hr => (bd_one (sd_ret (pd_and (pd_isi (vr 0) T.isinstance T.int (by decide +kernel)) (pd_one (pd_not (pd_isi (vr 0) T.isinstance T.bool (by decide +kernel)))))))) hk
abbrev P_is_name : List Str := ["value"]
theorem sc_is_name : FnScope N_is_name P_is_name (defScope s_is_name) := ⟨rfl, rfl, rfl, by decide +kernel, rfl, by decide +kernel, by decide +kernel⟩
theorem ok_is_name {P_ : Program} {w : World} {K : PySem.W.Frag} {mg : Str → Option Value} {base : Heap} {C P f : Addr} {fd : FuncData} (T : Tx K mg C P) 
    (F : FunD K "is_name" "is_name" (defArgs s_is_name) (defBody s_is_name) (defScope s_is_name) [] [] f fd) (hk : Keeps N_is_name 1 (sd_is_name C) (db_is_name C)) : FnOk P_ w K mg base (L2.CX P_ w) 1 f fd P_is_name (spOf K 1 (sd_is_name C)) := 
  okD F sc_is_name rfl (fun cdv A fr s H E hr => (bd_cons (sd_if (td_w (wd_or (td_not (td_tru (pd_isi (vr 0) T.isinstance T.str (by decide +kernel)))) (wd_or1 (td_not (td_chn opd_le opd_le pd_int (pd_callB (cd_len) (by rfl) T.len (by decide +kernel) (ad_cons (vr 0) ad_nil)) (pd_cint T.c_MOST_SIGNS)))))) (bd_one (sd_ret pd_bl)) bd_nil)
      (bd_one (sd_ret (pd_and (pd_cmp opd_in (pd_ix ixd (vr 0) pd_int (fun _ _ => rfl)) (pd_cstr T.c_LETTERS) (by rfl)) (pd_one (pd_callB (cd_all rfl) (by rfl) T.all (by decide +kernel) (ad_cons (pd_lc (own := [("sign", 1)]) rfl sc_is_name.nd (id_str (vr 0)) (blkOk_by (N := N_is_name) (sc := (defScope s_is_name)) (by decide +kernel)) (fun _ _ _ _ _ => (gw_name (i := 1) sc_is_name.nd)) (fun _ _ _ _ _ => tsd_nil) (fun _ _ _ _ _ => (pd_cmp opd_in (vr 1) (pd_op opd_add (pd_cstr T.c_LETTERS) (pd_cstr T.c_DIGITS)) (by rfl)))) ad_nil)))))))) hk
abbrev P_is_word_of : List Str := ["value", "words"]
theorem sc_is_word_of : FnScope N_is_word_of P_is_word_of (defScope s_is_word_of) := ⟨rfl, rfl, rfl, by decide +kernel, rfl, by decide +kernel, by decide +kernel⟩
theorem ok_is_word_of {P_ : Program} {w : World} {K : PySem.W.Frag} {mg : Str → Option Value} {base : Heap} {C P f : Addr} {fd : FuncData} (T : Tx K mg C P) 
    (F : FunD K "is_word_of" "is_word_of" (defArgs s_is_word_of) (defBody s_is_word_of) (defScope s_is_word_of) [] [] f fd) (hk : Keeps N_is_word_of 2 (sd_is_word_of C) (db_is_word_of C)) : FnOk P_ w K mg base (L2.CX P_ w) 1 f fd P_is_word_of (spOf K 2 (sd_is_word_of C)) := 
  okD F sc_is_word_of rfl (fun cdv A fr s H E hr => (bd_one (sd_ret (pd_and (pd_isi (vr 0) T.isinstance T.str (by decide +kernel)) (pd_one (pd_cmp opd_in (vr 0) (vr 1) (by rfl))))))) hk
abbrev P_names : List Str := ["_law_ring_here"]
theorem sc_names : FnScope N_names P_names (defScope s_names) := ⟨rfl, rfl, rfl, by decide +kernel, rfl, by decide +kernel, by decide +kernel⟩
theorem ok_names {P_ : Program} {w : World} {K : PySem.W.Frag} {mg : Str → Option Value} {base : Heap} {C P f : Addr} {fd : FuncData} (T : Tx K mg C P) 
    (F : FunD K "_law_names" "_law_names" (defArgs s_names) (defBody s_names) (defScope s_names) [] [] f fd) (hk : Keeps N_names 1 (sd_names C) (db_names C)) : FnOk P_ w K mg base (L2.CX P_ w) 1 f fd P_names (spOf K 1 (sd_names C)) := 
  okD F sc_names rfl (fun cdv A fr s H E hr => (bd_one (sd_ret (pd_if (td_isN (vr 0)) (pd_lst ad_nil) (pd_lc (own := [("_law_host", 1)]) rfl sc_names.nd (id_seq (pd_ix ixd (vr 0) pd_int (fun _ _ => rfl))) (blkOk_by (N := N_names) (sc := (defScope s_names)) (by decide +kernel)) (fun _ _ _ _ _ => (gw_name (i := 1) sc_names.nd)) (fun _ _ _ _ _ => tsd_nil) (fun _ _ _ _ _ => (pd_ix ixd (vr 1) pd_int (fun _ _ => rfl)))))))) hk
abbrev P_taken : List Str := ["_law_hosts_here"]
theorem sc_taken : FnScope N_taken P_taken (defScope s_taken) := ⟨rfl, rfl, rfl, by decide +kernel, rfl, by decide +kernel, by decide +kernel⟩
theorem ok_taken {P_ : Program} {w : World} {K : PySem.W.Frag} {mg : Str → Option Value} {base : Heap} {C P f : Addr} {fd : FuncData} (T : Tx K mg C P) 
    (F : FunD K "_law_taken" "_law_taken" (defArgs s_taken) (defBody s_taken) (defScope s_taken) [] [] f fd) (hk : Keeps N_taken 1 (sd_taken C) (db_taken C)) : FnOk P_ w K mg base (L2.CX P_ w) 1 f fd P_taken (spOf K 1 (sd_taken C)) := 
  okD F sc_taken rfl (fun cdv A fr s H E hr => (bd_cons (sd_set 1 sc_taken.nd (pd_lst ad_nil))
      (bd_cons (sd_for poF rfl (id_seq (vr 0)) (gd_name (i := 2) sc_taken.nd) (bd_one (sd_set 1 sc_taken.nd (pd_op opd_add (vr 1) (pd_callTy (cd_list) (by rfl) T.list (by decide +kernel) (ad_cons (pd_ix ixd (vr 2) pd_int (fun _ _ => rfl)) ad_nil))))))
      (bd_one (sd_ret (vr 1)))))) hk
abbrev P_check_ring : List Str := ["ring"]
theorem sc_check_ring : FnScope N_check_ring P_check_ring (defScope s_check_ring) := ⟨rfl, rfl, rfl, by decide +kernel, rfl, by decide +kernel, by decide +kernel⟩
theorem ok_check_ring {P_ : Program} {w : World} {K : PySem.W.Frag} {mg : Str → Option Value} {base : Heap} {C P f : Addr} {fd : FuncData} (T : Tx K mg C P) 
    (F : FunD K "check_ring" "check_ring" (defArgs s_check_ring) (defBody s_check_ring) (defScope s_check_ring) [] [] f fd) (hk : Keeps N_check_ring 1 (sd_check_ring C) (db_check_ring C)) : FnOk P_ w K mg base (L2.CX P_ w) 1 f fd P_check_ring (spOf K 1 (sd_check_ring C)) := 
  okD F sc_check_ring rfl (fun cdv A fr s H E hr => (bd_one (sd_if (td_not (td_tru (pd_isiC (vr 0) T.isC T.isinstance T.g_Ring))) (bd_one sd_never) bd_nil))) hk
abbrev P_Ring_names : List Str := ["self"]
theorem sc_Ring_names : FnScope N_Ring_names P_Ring_names (defScope s_Ring_names) := ⟨rfl, rfl, rfl, by decide +kernel, rfl, by decide +kernel, by decide +kernel⟩
theorem ok_Ring_names {P_ : Program} {w : World} {K : PySem.W.Frag} {mg : Str → Option Value} {base : Heap} {C P f : Addr} {fd : FuncData} (T : Tx K mg C P) 
    (F : FunD K "names" "Ring.names" (defArgs s_Ring_names) (defBody s_Ring_names) (defScope s_Ring_names) [] [] f fd) (hk : Keeps N_Ring_names 1 (sd_Ring_names C) (db_Ring_names C)) : FnOk P_ w K mg base (L2.CX P_ w) 1 f fd P_Ring_names (spOf K 1 (sd_Ring_names C)) := 
  okD F sc_Ring_names rfl (fun cdv A fr s H E hr => (bd_one (sd_ret (pd_callTy (cd_tuple) (by rfl) T.tuple (by decide +kernel) (ad_cons (pd_callB (cd_sortS) (by rfl) T.sorted (by decide +kernel) (ad_cons (pd_lc (own := [("host", 1)]) rfl sc_Ring_names.nd (id_seq (pd_fld (vr 0) T.cRing (T.na "_hosts" (by decide)))) (blkOk_by (N := N_Ring_names) (sc := (defScope s_Ring_names)) (by decide +kernel)) (fun _ _ _ _ _ => (gw_name (i := 1) sc_Ring_names.nd)) (fun _ _ _ _ _ => tsd_nil) (fun _ _ _ _ _ => (pd_ix ixd (vr 1) pd_int (fun _ _ => rfl)))) ad_nil)) ad_nil))))) hk
abbrev P_is_form_of : List Str := ["value", "forms"]
theorem sc_is_form_of : FnScope N_is_form_of P_is_form_of (defScope s_is_form_of) := ⟨rfl, rfl, rfl, by decide +kernel, rfl, by decide +kernel, by decide +kernel⟩
theorem ok_is_form_of {P_ : Program} {w : World} {K : PySem.W.Frag} {mg : Str → Option Value} {base : Heap} {C P f : Addr} {fd : FuncData} (T : Tx K mg C P) 
    (F : FunD K "is_form_of" "is_form_of" (defArgs s_is_form_of) (defBody s_is_form_of) (defScope s_is_form_of) [] [] f fd) (hk : Keeps N_is_form_of 2 (sd_is_form_of C) (db_is_form_of C)) : FnOk P_ w K mg base (L2.CX P_ w) 1 f fd P_is_form_of (spOf K 2 (sd_is_form_of C)) := 
  okD F sc_is_form_of rfl (fun cdv A fr s H E hr => (bd_cons (sd_if (td_w (wd_or (td_not (td_tru (pd_isi (vr 0) T.isinstance T.tuple (by decide +kernel)))) (wd_or (td_cmp (opd_eq hr.units) (pd_callB (cd_len) (by rfl) T.len (by decide +kernel) (ad_cons (vr 0) ad_nil)) pd_int (nomark _)) (wd_or1 (td_not (td_tru (pd_isi (pd_ix ixd (vr 0) pd_int (fun _ _ => rfl)) T.isinstance T.str (by decide +kernel)))))))) (bd_one (sd_ret pd_bl)) bd_nil)
      (bd_one (sd_ret (pd_cmp (opd_inT (hu65_of hr)) (pd_tup (ad_cons (pd_ix ixd (vr 0) pd_int (fun _ _ => rfl)) (ad_cons (pd_callB (cd_len) (by rfl) T.len (by decide +kernel) (ad_cons (vr 0) ad_nil)) ad_nil))) (vr 1) (by rfl)))))) hk
abbrev P_Ring_points : List Str := ["self"]
theorem sc_Ring_points : FnScope N_Ring_points P_Ring_points (defScope s_Ring_points) := ⟨rfl, rfl, rfl, by decide +kernel, rfl, by decide +kernel, by decide +kernel⟩
theorem ok_Ring_points {P_ : Program} {w : World} {K : PySem.W.Frag} {mg : Str → Option Value} {base : Heap} {C P f : Addr} {fd : FuncData} (T : Tx K mg C P) 
    (F : FunD K "points" "Ring.points" (defArgs s_Ring_points) (defBody s_Ring_points) (defScope s_Ring_points) [] [] f fd) (hk : Keeps N_Ring_points 1 (sd_Ring_points C) (db_Ring_points C)) : FnOk P_ w K mg base (L2.CX P_ w) 1 f fd P_Ring_points (spOf K 1 (sd_Ring_points C)) := 
  okD F sc_Ring_points rfl (fun cdv A fr s H E hr => (bd_one (sd_ret (pd_fld (vr 0) T.cRing (T.na "_points" (by decide)))))) hk
abbrev P_Ring_hosts : List Str := ["self"]
theorem sc_Ring_hosts : FnScope N_Ring_hosts P_Ring_hosts (defScope s_Ring_hosts) := ⟨rfl, rfl, rfl, by decide +kernel, rfl, by decide +kernel, by decide +kernel⟩
theorem ok_Ring_hosts {P_ : Program} {w : World} {K : PySem.W.Frag} {mg : Str → Option Value} {base : Heap} {C P f : Addr} {fd : FuncData} (T : Tx K mg C P) 
    (F : FunD K "hosts" "Ring.hosts" (defArgs s_Ring_hosts) (defBody s_Ring_hosts) (defScope s_Ring_hosts) [] [] f fd) (hk : Keeps N_Ring_hosts 1 (sd_Ring_hosts C) (db_Ring_hosts C)) : FnOk P_ w K mg base (L2.CX P_ w) 1 f fd P_Ring_hosts (spOf K 1 (sd_Ring_hosts C)) := 
  okD F sc_Ring_hosts rfl (fun cdv A fr s H E hr => (bd_one (sd_ret (pd_fld (vr 0) T.cRing (T.na "_hosts" (by decide)))))) hk
abbrev P_Ring_factor : List Str := ["self"]
theorem sc_Ring_factor : FnScope N_Ring_factor P_Ring_factor (defScope s_Ring_factor) := ⟨rfl, rfl, rfl, by decide +kernel, rfl, by decide +kernel, by decide +kernel⟩
theorem ok_Ring_factor {P_ : Program} {w : World} {K : PySem.W.Frag} {mg : Str → Option Value} {base : Heap} {C P f : Addr} {fd : FuncData} (T : Tx K mg C P) 
    (F : FunD K "factor" "Ring.factor" (defArgs s_Ring_factor) (defBody s_Ring_factor) (defScope s_Ring_factor) [] [] f fd) (hk : Keeps N_Ring_factor 1 (sd_Ring_factor C) (db_Ring_factor C)) : FnOk P_ w K mg base (L2.CX P_ w) 1 f fd P_Ring_factor (spOf K 1 (sd_Ring_factor C)) := 
  okD F sc_Ring_factor rfl (fun cdv A fr s H E hr => (bd_one (sd_ret (pd_fld (vr 0) T.cRing (T.na "_factor" (by decide)))))) hk
abbrev P_Ring_spread : List Str := ["self"]
theorem sc_Ring_spread : FnScope N_Ring_spread P_Ring_spread (defScope s_Ring_spread) := ⟨rfl, rfl, rfl, by decide +kernel, rfl, by decide +kernel, by decide +kernel⟩
theorem ok_Ring_spread {P_ : Program} {w : World} {K : PySem.W.Frag} {mg : Str → Option Value} {base : Heap} {C P f : Addr} {fd : FuncData} (T : Tx K mg C P) 
    (F : FunD K "spread" "Ring.spread" (defArgs s_Ring_spread) (defBody s_Ring_spread) (defScope s_Ring_spread) [] [] f fd) (hk : Keeps N_Ring_spread 1 (sd_Ring_spread C) (db_Ring_spread C)) : FnOk P_ w K mg base (L2.CX P_ w) 1 f fd P_Ring_spread (spOf K 1 (sd_Ring_spread C)) := 
  okD F sc_Ring_spread rfl (fun cdv A fr s H E hr => (bd_one (sd_ret (pd_fld (vr 0) T.cRing (T.na "_spread" (by decide)))))) hk
abbrev P_Ring__way : List Str := ["self", "point", "marks"]
theorem sc_Ring__way : FnScope N_Ring__way P_Ring__way (defScope s_Ring__way) := ⟨rfl, rfl, rfl, by decide +kernel, rfl, by decide +kernel, by decide +kernel⟩
theorem ok_Ring__way {P_ : Program} {w : World} {K : PySem.W.Frag} {mg : Str → Option Value} {base : Heap} {C P f : Addr} {fd : FuncData} (T : Tx K mg C P) 
    (F : FunD K "_way" "Ring._way" (defArgs s_Ring__way) (defBody s_Ring__way) (defScope s_Ring__way) [] [] f fd) (hk : Keeps N_Ring__way 3 (sd_Ring__way C) (db_Ring__way C)) : FnOk P_ w K mg base (L2.CX P_ w) 1 f fd P_Ring__way (spOf K 3 (sd_Ring__way C)) := 
  okD F sc_Ring__way rfl (fun cdv A fr s H E hr => (bd_one (sd_ret (pd_callB (cd_minL rfl) (by rfl) T.min (by decide +kernel) (ad_cons (pd_lc (own := [("mark", 3)]) rfl sc_Ring__way.nd (id_seq (vr 2)) (blkOk_by (N := N_Ring__way) (sc := (defScope s_Ring__way)) (by decide +kernel)) (fun _ _ _ _ _ => (gw_name (i := 3) sc_Ring__way.nd)) (fun _ _ _ _ _ => tsd_nil) (fun _ _ _ _ _ => (pd_op opd_mod (pd_op opd_sub (vr 3) (vr 1)) (pd_fld (vr 0) T.cRing (T.na "_points" (by decide)))))) ad_nil))))) hk
abbrev P_keepers : List Str := ["_law_ring_here", "_law_at"]
theorem sc_keepers : FnScope N_keepers P_keepers (defScope s_keepers) := ⟨rfl, rfl, rfl, by decide +kernel, rfl, by decide +kernel, by decide +kernel⟩
theorem ok_keepers {P_ : Program} {w : World} {K : PySem.W.Frag} {mg : Str → Option Value} {base : Heap} {C P f : Addr} {fd : FuncData} (T : Tx K mg C P) (F_walk : Fok P_ w K mg base "_law_walk" 1 2 (sd_walk C))
    (F : FunD K "_law_keepers" "_law_keepers" (defArgs s_keepers) (defBody s_keepers) (defScope s_keepers) [] [] f fd) (hk : Keeps N_keepers 2 (sd_keepers C) (db_keepers C)) : FnOk P_ w K mg base (L2.CX P_ w) 2 f fd P_keepers (spOf K 2 (sd_keepers C)) := 
  okD F sc_keepers rfl (fun cdv A fr s H E hr => (bd_cons (sd_par2 2 3 rfl sc_keepers.nd (ad_cons (pd_fn F_walk (hr.mono (by decide)) tkF (ad_cons (vr 0) (ad_cons (vr 1) ad_nil))) (ad_cons (pd_ix ixd (vr 0) pd_int (fun _ _ => rfl)) ad_nil)))
      (bd_cons (sd_if (td_cmp (opd_eq hr.units) (pd_ix ixd (vr 0) pd_int (fun _ _ => rfl)) pd_str (nomark _)) (bd_one (sd_ret (pd_callTy (cd_tuple) (by rfl) T.tuple (by decide +kernel) (ad_cons (pd_slice sld (vr 2) od_no (od_some (vr 3))) ad_nil)))) bd_nil)
      (bd_cons (sd_asg (pd_tup (ad_cons (pd_callTy (cd_dictC rfl) (by rfl) T.dict (by decide +kernel) (ad_cons (pd_lc (own := [("_law_host", 7)]) rfl sc_keepers.nd (id_seq (pd_ix ixd (vr 0) pd_int (fun _ _ => rfl))) (blkOk_by (N := N_keepers) (sc := (defScope s_keepers)) (by decide +kernel)) (fun _ _ _ _ _ => (gw_name (i := 7) sc_keepers.nd)) (fun _ _ _ _ _ => tsd_nil) (fun _ _ _ _ _ => (pd_tup (ad_cons (pd_ix ixd (vr 7) pd_int (fun _ _ => rfl)) (ad_cons (pd_ix ixd (vr 7) pd_int (fun _ _ => rfl)) ad_nil))))) ad_nil)) (ad_cons (pd_lstC ad_nil) (ad_cons (pd_lstC ad_nil) ad_nil)))) (gd_tup (n := 3) rfl (gds_cons (gd_name (i := 4) sc_keepers.nd) (gds_cons (gd_name (i := 5) sc_keepers.nd) (gds_cons (gd_name (i := 6) sc_keepers.nd) gds_nil)))))
      (bd_cons (sd_for poF rfl (id_seq (vr 2)) (gd_name (i := 7) sc_keepers.nd) (bd_cons (sd_if (td_w (wd_and (td_cmp opd_ni (pd_dget (hu_of hr) (vr 4) (vr 7) (fun _ _ => rfl)) (vr 5) (by rfl)) (wd_and1 (td_cmp opd_lt (pd_callB (cd_len) (by rfl) T.len (by decide +kernel) (ad_cons (vr 6) ad_nil)) (vr 3) (nomark _))))) (bd_one (sd_expr (pd_app (vr 6) (ad_cons (vr 7) ad_nil)))) bd_nil)
      (bd_one (sd_expr (pd_app (vr 5) (ad_cons (pd_dget (hu_of hr) (vr 4) (vr 7) (fun _ _ => rfl)) ad_nil))))))
      (bd_cons (sd_setLc 8 (own := [("_law_host", 7)]) rfl sc_keepers.nd (sw_true rfl rfl rfl (by decide +kernel)) (id_seq (vr 2)) (blkOk_by (N := N_keepers) (sc := (defScope s_keepers)) (by decide +kernel)) (fun _ _ _ _ _ => (gw_name (i := 7) sc_keepers.nd)) (fun _ _ _ _ _ => (tsd_one (td_cmp opd_ni (vr 7) (vr 6) (by rfl)))) (fun _ _ _ _ _ => (vr 7)))
      (bd_one (sd_ret (pd_callTy (cd_tuple) (by rfl) T.tuple (by decide +kernel) (ad_cons (pd_op opd_add (vr 6) (pd_slice sld (vr 8) od_no (od_some (pd_op opd_sub (vr 3) (pd_callB (cd_len) (by rfl) T.len (by decide +kernel) (ad_cons (vr 6) ad_nil)))))) ad_nil)))))))))) hk
abbrev P_is_from_to : List Str := ["value", "least", "most"]
theorem sc_is_from_to : FnScope N_is_from_to P_is_from_to (defScope s_is_from_to) := ⟨rfl, rfl, rfl, by decide +kernel, rfl, by decide +kernel, by decide +kernel⟩
theorem ok_is_from_to {P_ : Program} {w : World} {K : PySem.W.Frag} {mg : Str → Option Value} {base : Heap} {C P f : Addr} {fd : FuncData} (T : Tx K mg C P) (F_is_whole : Fok P_ w K mg base "is_whole" 1 1 (sd_is_whole C))
    (F : FunD K "is_from_to" "is_from_to" (defArgs s_is_from_to) (defBody s_is_from_to) (defScope s_is_from_to) [] [] f fd) (hk : Keeps N_is_from_to 3 (sd_is_from_to C) (db_is_from_to C)) : FnOk P_ w K mg base (L2.CX P_ w) 2 f fd P_is_from_to (spOf K 3 (sd_is_from_to C)) := 
  okD F sc_is_from_to rfl (fun cdv A fr s H E hr => (bd_one (sd_ret (pd_and (pd_fn F_is_whole (hr.mono (by decide)) tkF (ad_cons (vr 0) ad_nil)) (pd_one (pd_chn opd_le opd_le (vr 1) (vr 0) (vr 2))))))) hk
abbrev P_is_free_name : List Str := ["value", "hosts"]
theorem sc_is_free_name : FnScope N_is_free_name P_is_free_name (defScope s_is_free_name) := ⟨rfl, rfl, rfl, by decide +kernel, rfl, by decide +kernel, by decide +kernel⟩
theorem ok_is_free_name {P_ : Program} {w : World} {K : PySem.W.Frag} {mg : Str → Option Value} {base : Heap} {C P f : Addr} {fd : FuncData} (T : Tx K mg C P) (F_is_name : Fok P_ w K mg base "is_name" 1 1 (sd_is_name C))
    (F : FunD K "is_free_name" "is_free_name" (defArgs s_is_free_name) (defBody s_is_free_name) (defScope s_is_free_name) [] [] f fd) (hk : Keeps N_is_free_name 2 (sd_is_free_name C) (db_is_free_name C)) : FnOk P_ w K mg base (L2.CX P_ w) 2 f fd P_is_free_name (spOf K 2 (sd_is_free_name C)) := 
  okD F sc_is_free_name rfl (fun cdv A fr s H E hr => (bd_one (sd_ret (pd_and (pd_fn F_is_name (hr.mono (by decide)) tkF (ad_cons (vr 0) ad_nil)) (pd_one (pd_not (pd_callB (cd_any rfl) (by rfl) T.any (by decide +kernel) (ad_cons (pd_lc (own := [("host", 2)]) rfl sc_is_free_name.nd (id_seq (vr 1)) (blkOk_by (N := N_is_free_name) (sc := (defScope s_is_free_name)) (by decide +kernel)) (fun _ _ _ _ _ => (gw_name (i := 2) sc_is_free_name.nd)) (fun _ _ _ _ _ => tsd_nil) (fun _ _ _ _ _ => (pd_cmp (opd_eq hr.units) (vr 0) (pd_ix ixd (vr 2) pd_int (fun _ _ => rfl)) (nomark _)))) ad_nil)))))))) hk
abbrev P_marks : List Str := ["_law_purse_here", "_law_points_here", "_law_taken_here", "_law_many"]
theorem sc_marks : FnScope N_marks P_marks (defScope s_marks) := ⟨rfl, rfl, rfl, by decide +kernel, rfl, by decide +kernel, by decide +kernel⟩
theorem ok_marks {P_ : Program} {w : World} {K : PySem.W.Frag} {mg : Str → Option Value} {base : Heap} {C P f : Addr} {fd : FuncData} (T : Tx K mg C P) (F_draw : Fok P_ w K mg base "_law_draw" 1 2 (sd_draw C))
    (F : FunD K "_law_marks" "_law_marks" (defArgs s_marks) (defBody s_marks) (defScope s_marks) [] [] f fd) (hk : Keeps N_marks 4 (sd_marks C) (db_marks C)) : FnOk P_ w K mg base (L2.CX P_ w) 2 f fd P_marks (spOf K 4 (sd_marks C)) := 
  okD F sc_marks rfl (fun cdv A fr s H E hr => (bd_cons (sd_set 4 sc_marks.nd (pd_lstC ad_nil))
      (bd_cons (sd_for poF rfl (id_rng1 (by rfl) T.range (ad_cons (vr 3) ad_nil)) (gd_name (i := 5) sc_marks.nd) (bd_cons (sd_set 6 sc_marks.nd (pd_fn F_draw (hr.mono (by decide)) tkF (ad_cons (vr 0) (ad_cons (vr 1) ad_nil))))
      (bd_one (sd_if (td_cmp opd_ni (vr 6) (pd_op opd_add (vr 2) (vr 4)) (by rfl)) (bd_one (sd_expr (pd_app (vr 4) (ad_cons (vr 6) ad_nil)))) bd_nil))))
      (bd_cons (sd_setLc 7 (own := [("_law_each", 8)]) rfl sc_marks.nd (sw_true rfl rfl rfl (by decide +kernel)) (id_rng1 (by rfl) T.range (ad_cons (pd_op opd_add (pd_callB (cd_len) (by rfl) T.len (by decide +kernel) (ad_cons (vr 2) ad_nil)) pd_int) ad_nil)) (blkOk_by (N := N_marks) (sc := (defScope s_marks)) (by decide +kernel)) (fun _ _ _ _ _ => (gw_name (i := 8) sc_marks.nd)) (fun _ _ _ _ _ => (tsd_one (td_cmp opd_ni (vr 8) (vr 2) (by rfl)))) (fun _ _ _ _ _ => (vr 8)))
      (bd_one (sd_ret (pd_callTy (cd_tuple) (by rfl) T.tuple (by decide +kernel) (ad_cons (pd_callB (cd_sortI) (by rfl) T.sorted (by decide +kernel) (ad_cons (pd_if (td_cmp (opd_ne hr.units) (vr 4) (pd_lst ad_nil) (nomark _)) (vr 4) (pd_slice sld (vr 7) od_no (od_some pd_int))) ad_nil)) ad_nil)))))))) hk
abbrev P_pick : List Str := ["_law_purse_here", "_law_menu"]
theorem sc_pick : FnScope N_pick P_pick (defScope s_pick) := ⟨rfl, rfl, rfl, by decide +kernel, rfl, by decide +kernel, by decide +kernel⟩
theorem ok_pick {P_ : Program} {w : World} {K : PySem.W.Frag} {mg : Str → Option Value} {base : Heap} {C P f : Addr} {fd : FuncData} (T : Tx K mg C P) (F_draw : Fok P_ w K mg base "_law_draw" 1 2 (sd_draw C))
    (F : FunD K "_law_pick" "_law_pick" (defArgs s_pick) (defBody s_pick) (defScope s_pick) [] [] f fd) (hk : Keeps N_pick 2 (sd_pick C) (db_pick C)) : FnOk P_ w K mg base (L2.CX P_ w) 2 f fd P_pick (spOf K 2 (sd_pick C)) := 
  okD F sc_pick rfl (fun cdv A fr s H E hr => (bd_one (sd_ret (pd_ix ixd (vr 1) (pd_fn F_draw (hr.mono (by decide)) tkF (ad_cons (vr 0) (ad_cons (pd_callB (cd_len) (by rfl) T.len (by decide +kernel) (ad_cons (vr 1) ad_nil)) ad_nil))) (fun _ _ => rfl))))) hk
abbrev P_changed : List Str := ["_law_now", "_law_deed"]
theorem sc_changed : FnScope N_changed P_changed (defScope s_changed) := ⟨rfl, rfl, rfl, by decide +kernel, rfl, by decide +kernel, by decide +kernel⟩
theorem ok_changed {P_ : Program} {w : World} {K : PySem.W.Frag} {mg : Str → Option Value} {base : Heap} {C P f : Addr} {fd : FuncData} (T : Tx K mg C P) (F_names : Fok P_ w K mg base "_law_names" 1 1 (sd_names C)) (F_taken : Fok P_ w K mg base "_law_taken" 1 1 (sd_taken C))
    (F : FunD K "_law_changed" "_law_changed" (defArgs s_changed) (defBody s_changed) (defScope s_changed) [] [] f fd) (hk : Keeps N_changed 2 (sd_changed C) (db_changed C)) : FnOk P_ w K mg base (L2.CX P_ w) 2 f fd P_changed (spOf K 2 (sd_changed C)) := 
  okD F sc_changed rfl (fun cdv A fr s H E hr => (bd_cons (sd_asg (pd_tup (ad_cons (pd_fn F_names (hr.mono (by decide)) tkF (ad_cons (vr 0) ad_nil)) (ad_cons (pd_fn F_taken (hr.mono (by decide)) tkF (ad_cons (pd_ix ixd (vr 0) pd_int (fun _ _ => rfl)) ad_nil)) ad_nil))) (gd_tup (n := 2) rfl (gds_cons (gd_name (i := 2) sc_changed.nd) (gds_cons (gd_name (i := 3) sc_changed.nd) gds_nil))))
      (bd_cons (sd_if (td_cmp (opd_eq hr.units) (pd_ix ixd (vr 1) pd_int (fun _ _ => rfl)) pd_str (nomark _)) (bd_cons (sd_setLc 4 (own := [("_law_mark", 6)]) rfl sc_changed.nd (sw_true rfl rfl rfl (by decide +kernel)) (id_seq (pd_ix ixd (vr 1) pd_int (fun _ _ => rfl))) (blkOk_by (N := N_changed) (sc := (defScope s_changed)) (by decide +kernel)) (fun _ _ _ _ _ => (gw_name (i := 6) sc_changed.nd)) (fun _ _ _ _ _ => (tsd_one (td_cmp opd_in (vr 6) (vr 3) (by rfl)))) (fun _ _ _ _ _ => (vr 6)))
      (bd_cons (sd_if (td_w (wd_or (td_cmp opd_in (pd_ix ixd (vr 1) pd_int (fun _ _ => rfl)) (vr 2) (by rfl)) (wd_or (td_cmp (opd_eq hr.units) (pd_callB (cd_len) (by rfl) T.len (by decide +kernel) (ad_cons (vr 2) ad_nil)) pd_int (nomark _)) (wd_or1 (td_cmp (opd_ne hr.units) (vr 4) (pd_lst ad_nil) (nomark _)))))) (bd_one (sd_ret pd_non)) bd_nil)
      (bd_one (sd_ret (pd_op opd_add (pd_slice sld (vr 0) od_no (od_some pd_int)) (pd_lst (ad_cons (pd_op opd_add (pd_ix ixd (vr 0) pd_int (fun _ _ => rfl)) (pd_tup (ad_cons (pd_callTy (cd_tuple) (by rfl) T.tuple (by decide +kernel) (ad_cons (pd_slice sld (vr 1) (od_some pd_int) od_no) ad_nil)) ad_nil))) ad_nil))))))) bd_nil)
      (bd_cons (sd_set 5 sc_changed.nd (pd_callTy (cd_tuple) (by rfl) T.tuple (by decide +kernel) (ad_cons (pd_lc (own := [("_law_host", 7)]) rfl sc_changed.nd (id_seq (pd_ix ixd (vr 0) pd_int (fun _ _ => rfl))) (blkOk_by (N := N_changed) (sc := (defScope s_changed)) (by decide +kernel)) (fun _ _ _ _ _ => (gw_name (i := 7) sc_changed.nd)) (fun _ _ _ _ _ => (tsd_one (td_cmp (opd_ne hr.units) (pd_ix ixd (vr 7) pd_int (fun _ _ => rfl)) (pd_ix ixd (vr 1) pd_int (fun _ _ => rfl)) (nomark _)))) (fun _ _ _ _ _ => (vr 7))) ad_nil)))
      (bd_one (sd_ret (pd_if (td_w (wd_and (td_cmp opd_in (pd_ix ixd (vr 1) pd_int (fun _ _ => rfl)) (vr 2) (by rfl)) (wd_and1 (td_cmp (opd_ne hr.units) (vr 5) (pd_tup ad_nil) (nomark _))))) (pd_op opd_add (pd_slice sld (vr 0) od_no (od_some pd_int)) (pd_lst (ad_cons (vr 5) ad_nil))) pd_non))))))) hk
abbrev P_are_free_marks : List Str := ["value", "points", "hosts"]
theorem sc_are_free_marks : FnScope N_are_free_marks P_are_free_marks (defScope s_are_free_marks) := ⟨rfl, rfl, rfl, by decide +kernel, rfl, by decide +kernel, by decide +kernel⟩
theorem ok_are_free_marks {P_ : Program} {w : World} {K : PySem.W.Frag} {mg : Str → Option Value} {base : Heap} {C P f : Addr} {fd : FuncData} (T : Tx K mg C P) (F_is_ascending : Fok P_ w K mg base "is_ascending" 1 1 (sd_is_ascending C)) (F_is_from_to : Fok P_ w K mg base "is_from_to" 2 3 (sd_is_from_to C))
    (F : FunD K "are_free_marks" "are_free_marks" (defArgs s_are_free_marks) (defBody s_are_free_marks) (defScope s_are_free_marks) [] [] f fd) (hk : Keeps N_are_free_marks 3 (sd_are_free_marks C) (db_are_free_marks C)) : FnOk P_ w K mg base (L2.CX P_ w) 3 f fd P_are_free_marks (spOf K 3 (sd_are_free_marks C)) := 
  okD F sc_are_free_marks rfl (fun cdv A fr s H E hr => (bd_cons (sd_if (td_w (wd_or (td_not (td_tru (pd_isi (vr 0) T.isinstance T.tuple (by decide +kernel)))) (wd_or1 (td_not (td_chn opd_le opd_le pd_int (pd_callB (cd_len) (by rfl) T.len (by decide +kernel) (ad_cons (vr 0) ad_nil)) (pd_cint T.c_MOST_MARKS)))))) (bd_one (sd_ret pd_bl)) bd_nil)
      (bd_cons (sd_if (td_w (wd_or (td_not (td_tru (pd_callB (cd_all rfl) (by rfl) T.all (by decide +kernel) (ad_cons (pd_lc (own := [("mark", 3)]) rfl sc_are_free_marks.nd (id_seq (vr 0)) (blkOk_by (N := N_are_free_marks) (sc := (defScope s_are_free_marks)) (by decide +kernel)) (fun _ _ _ _ _ => (gw_name (i := 3) sc_are_free_marks.nd)) (fun _ _ _ _ _ => tsd_nil) (fun _ _ _ _ _ => (pd_fn F_is_from_to (hr.mono (by decide)) takes0 (ad_cons (vr 3) (ad_cons pd_int (ad_cons (pd_op opd_sub (vr 1) pd_int) ad_nil)))))) ad_nil)))) (wd_or1 (td_not (td_tru (pd_fn F_is_ascending (hr.mono (by decide)) tkF (ad_cons (vr 0) ad_nil))))))) (bd_one (sd_ret pd_bl)) bd_nil)
      (bd_one (sd_ret (pd_not (pd_callB (cd_any rfl) (by rfl) T.any (by decide +kernel) (ad_cons (pd_lc2 (own := [("host", 4), ("mark", 3)]) (vs1 := [3]) rfl sc_are_free_marks.nd (id_seq (vr 2)) (blkOk_by (N := N_are_free_marks) (sc := (defScope s_are_free_marks)) (by decide +kernel)) (by decide) (fun _ _ _ _ _ => (gw_name (i := 4) sc_are_free_marks.nd)) (fun _ _ _ _ _ => tsd_nil) (fun _ _ _ _ _ => (id_seq (vr 0))) (fun _ _ _ _ _ => (gw_name (i := 3) sc_are_free_marks.nd)) (fun _ _ _ _ _ => tsd_nil) (fun _ _ _ _ _ => (pd_cmp opd_in (vr 3) (pd_ix ixd (vr 4) pd_int (fun _ _ => rfl)) (by rfl)))) ad_nil)))))))) hk
abbrev P_ring : List Str := ["_law_purse_here", "_law_points_here", "_law_most"]
theorem sc_ring : FnScope N_ring P_ring (defScope s_ring) := ⟨rfl, rfl, rfl, by decide +kernel, rfl, by decide +kernel, by decide +kernel⟩
theorem ok_ring {P_ : Program} {w : World} {K : PySem.W.Frag} {mg : Str → Option Value} {base : Heap} {C P f : Addr} {fd : FuncData} (T : Tx K mg C P) (F_draw : Fok P_ w K mg base "_law_draw" 1 2 (sd_draw C)) (F_marks : Fok P_ w K mg base "_law_marks" 2 4 (sd_marks C)) (F_pick : Fok P_ w K mg base "_law_pick" 2 2 (sd_pick C))
    (F : FunD K "_law_ring" "_law_ring" (defArgs s_ring) (defBody s_ring) (defScope s_ring) [] [] f fd) (hk : Keeps N_ring 3 (sd_ring C) (db_ring C)) : FnOk P_ w K mg base (L2.CX P_ w) 3 f fd P_ring (spOf K 3 (sd_ring C)) := 
  okD F sc_ring rfl (fun cdv A fr s H E hr => (bd_cons (sd_asg (pd_tup (ad_cons (pd_op opd_add pd_int (pd_fn F_draw (hr.mono (by decide)) tkF (ad_cons (vr 0) (ad_cons pd_int ad_nil)))) (ad_cons (pd_lst ad_nil) (ad_cons (pd_lstC ad_nil) ad_nil)))) (gd_tup (n := 3) rfl (gds_cons (gd_name (i := 3) sc_ring.nd) (gds_cons (gd_name (i := 4) sc_ring.nd) (gds_cons (gd_name (i := 5) sc_ring.nd) gds_nil)))))
      (bd_cons (sd_for poF rfl (id_rng1 (by rfl) T.range (ad_cons (pd_callB (cd_min2 rfl) (by rfl) T.min (by decide +kernel) (ad_cons (vr 3) (ad_cons (vr 1) ad_nil))) ad_nil)) (gd_name (i := 6) sc_ring.nd) (bd_cons (sd_set 7 sc_ring.nd (pd_fn F_marks (hr.mono (by decide)) tkF (ad_cons (vr 0) (ad_cons (vr 1) (ad_cons (vr 4) (ad_cons (pd_op opd_add pd_int (pd_fn F_draw (hr.mono (by decide)) tkF (ad_cons (vr 0) (ad_cons (vr 2) ad_nil)))) ad_nil))))))
      (bd_cons (sd_set 4 sc_ring.nd (pd_op opd_add (vr 4) (pd_callTy (cd_list) (by rfl) T.list (by decide +kernel) (ad_cons (vr 7) ad_nil))))
      (bd_cons (sd_expr (pd_app (vr 5) (ad_cons (pd_tup (ad_cons (pd_ix ixd pd_str (vr 6) (fun _ _ => rfl)) (ad_cons (pd_fn F_pick (hr.mono (by decide)) tkF (ad_cons (vr 0) (ad_cons (pd_lst (ad_cons pd_str (ad_cons pd_str (ad_cons pd_str (ad_cons pd_str ad_nil))))) ad_nil))) (ad_cons (vr 7) ad_nil)))) ad_nil)))
      (bd_one (sd_if (td_cmp opd_ge (pd_callB (cd_len) (by rfl) T.len (by decide +kernel) (ad_cons (vr 4) ad_nil)) (vr 1) (nomark _)) (bd_one sd_brk) bd_nil))))))
      (bd_cons (sd_set 3 sc_ring.nd (pd_op opd_add pd_int (pd_fn F_draw (hr.mono (by decide)) tkF (ad_cons (vr 0) (ad_cons pd_int ad_nil)))))
      (bd_cons (sd_setLc 8 (own := [("_law_k", 6)]) rfl sc_ring.nd (sw_true rfl rfl rfl (by decide +kernel)) (id_rng1 (by rfl) T.range (ad_cons pd_int ad_nil)) (blkOk_by (N := N_ring) (sc := (defScope s_ring)) (by decide +kernel)) (fun _ _ _ _ _ => (gw_name (i := 6) sc_ring.nd)) (fun _ _ _ _ _ => tsd_nil) (fun _ _ _ _ _ => (pd_op opd_add pd_int (pd_fn F_draw (hr.mono (by decide)) takes0 (ad_cons (vr 0) (ad_cons (vr 3) ad_nil))))))
      (bd_cons (sd_set 9 sc_ring.nd (pd_lst (ad_cons (pd_fn F_pick (hr.mono (by decide)) tkF (ad_cons (vr 0) (ad_cons (pd_lst (ad_cons pd_str (ad_cons pd_str ad_nil))) ad_nil))) (ad_cons (pd_fn F_pick (hr.mono (by decide)) tkF (ad_cons (vr 0) (ad_cons (pd_lst (ad_cons pd_str (ad_cons pd_str ad_nil))) ad_nil))) ad_nil))))
      (bd_one (sd_ret (pd_lst (ad_cons (vr 1) (ad_cons (vr 3) (ad_cons (pd_ix ixd (vr 9) pd_int (fun _ _ => rfl)) (ad_cons (pd_ix ixd (vr 8) pd_int (fun _ _ => rfl)) (ad_cons (pd_ix ixd (vr 8) pd_int (fun _ _ => rfl)) (ad_cons (pd_ix ixd (vr 9) pd_int (fun _ _ => rfl)) (ad_cons (pd_callTy (cd_tuple) (by rfl) T.tuple (by decide +kernel) (ad_cons (vr 5) ad_nil)) ad_nil)))))))))))))))) hk
abbrev P_later : List Str := ["_law_stand", "_law_deed"]
theorem sc_later : FnScope N_later P_later (defScope s_later) := ⟨rfl, rfl, rfl, by decide +kernel, rfl, by decide +kernel, by decide +kernel⟩
theorem ok_later {P_ : Program} {w : World} {K : PySem.W.Frag} {mg : Str → Option Value} {base : Heap} {C P f : Addr} {fd : FuncData} (T : Tx K mg C P) (F_changed : Fok P_ w K mg base "_law_changed" 2 2 (sd_changed C)) (F_names : Fok P_ w K mg base "_law_names" 1 1 (sd_names C))
    (F : FunD K "_law_later" "_law_later" (defArgs s_later) (defBody s_later) (defScope s_later) [] [] f fd) (hk : Keeps N_later 2 (sd_later C) (db_later C)) : FnOk P_ w K mg base (L2.CX P_ w) 3 f fd P_later (spOf K 2 (sd_later C)) := 
  okD F sc_later rfl (fun cdv A fr s H E hr => (bd_cons (sd_asg (vr 0) (gd_lst (n := 3) rfl (gds_cons (gd_name (i := 2) sc_later.nd) (gds_cons (gd_name (i := 3) sc_later.nd) (gds_cons (gd_name (i := 4) sc_later.nd) gds_nil)))))
      (bd_cons (sd_if (td_cmp opd_in (pd_ix ixd (vr 1) pd_int (fun _ _ => rfl)) (pd_lst (ad_cons pd_str (ad_cons pd_str ad_nil))) (by rfl)) (bd_cons (sd_set 5 sc_later.nd (pd_if (td_isN (vr 3)) (pd_fn F_changed (hr.mono (by decide)) tkF (ad_cons (vr 2) (ad_cons (vr 1) ad_nil))) pd_non))
      (bd_one (sd_ret (pd_if (td_isN (vr 5)) pd_non (pd_lst (ad_cons (vr 2) (ad_cons (vr 5) (ad_cons (vr 4) ad_nil)))))))) bd_nil)
      (bd_cons (sd_if (td_cmp (opd_eq hr.units) (pd_ix ixd (vr 1) pd_int (fun _ _ => rfl)) pd_str (nomark _)) (bd_cons (sd_set 6 sc_later.nd (pd_fn F_names (hr.mono (by decide)) tkF (ad_cons (vr 3) ad_nil)))
      (bd_cons (sd_setLc 7 (own := [("_law_host", 10)]) rfl sc_later.nd (sw_true rfl rfl rfl (by decide +kernel)) (id_seq (vr 4)) (blkOk_by (N := N_later) (sc := (defScope s_later)) (by decide +kernel)) (fun _ _ _ _ _ => (gw_name (i := 10) sc_later.nd)) (fun _ _ _ _ _ => (tsd_one (td_cmp opd_in (vr 10) (vr 6) (by rfl)))) (fun _ _ _ _ _ => (vr 10)))
      (bd_one (sd_ret (pd_if (td_isN (vr 3)) pd_non (pd_lst (ad_cons (vr 3) (ad_cons pd_non (ad_cons (vr 7) ad_nil))))))))) bd_nil)
      (bd_cons (sd_if (td_cmp opd_in (pd_ix ixd (vr 1) pd_int (fun _ _ => rfl)) (pd_lst (ad_cons pd_str (ad_cons pd_str ad_nil))) (by rfl)) (bd_cons (sd_set 8 sc_later.nd (pd_fn F_names (hr.mono (by decide)) tkF (ad_cons (pd_if (td_cmp (opd_eq hr.units) (pd_ix ixd (vr 1) pd_int (fun _ _ => rfl)) pd_str (nomark _)) (vr 3) (vr 2)) ad_nil)))
      (bd_cons (sd_set 9 sc_later.nd (pd_and (pd_cmp opd_in (pd_ix ixd (vr 1) pd_int (fun _ _ => rfl)) (vr 8) (by rfl)) (pd_and (pd_cmp opd_in (pd_ix ixd (vr 1) pd_int (fun _ _ => rfl)) (pd_fn F_names (hr.mono (by decide)) tkF (ad_cons (vr 2) ad_nil)) (by rfl)) (pd_one (pd_cmp (opd_ne hr.units) (pd_ix ixd (vr 1) pd_int (fun _ _ => rfl)) (pd_ix ixd (vr 1) pd_int (fun _ _ => rfl)) (nomark _))))))
      (bd_one (sd_ret (pd_if (td_w (wd_and (td_tru (vr 9)) (wd_and (td_cmp opd_ni (pd_ix ixd (vr 1) pd_int (fun _ _ => rfl)) (vr 4) (by rfl)) (wd_and1 (td_cmp opd_ni (pd_ix ixd (vr 1) pd_int (fun _ _ => rfl)) (vr 4) (by rfl)))))) (vr 0) pd_non))))) bd_nil)
      (bd_cons (sd_if (td_cmp opd_ni (pd_ix ixd (vr 1) pd_int (fun _ _ => rfl)) (pd_op opd_add (pd_fn F_names (hr.mono (by decide)) tkF (ad_cons (vr 2) ad_nil)) (pd_fn F_names (hr.mono (by decide)) tkF (ad_cons (vr 3) ad_nil))) (by rfl)) (bd_one (sd_ret pd_non)) bd_nil)
      (bd_cons (sd_if (td_w (wd_and (td_cmp (opd_ne hr.units) (pd_ix ixd (vr 1) pd_int (fun _ _ => rfl)) pd_str (nomark _)) (wd_and1 (td_cmp (opd_ne hr.units) (pd_cmp (opd_eq hr.units) (pd_ix ixd (vr 1) pd_int (fun _ _ => rfl)) pd_str (nomark _)) (pd_cmp opd_in (pd_ix ixd (vr 1) pd_int (fun _ _ => rfl)) (vr 4) (by rfl)) (nomark _))))) (bd_one (sd_ret pd_non)) bd_nil)
      (bd_cons (sd_setLc 7 (own := [("_law_host", 10)]) rfl sc_later.nd (sw_true rfl rfl rfl (by decide +kernel)) (id_seq (vr 4)) (blkOk_by (N := N_later) (sc := (defScope s_later)) (by decide +kernel)) (fun _ _ _ _ _ => (gw_name (i := 10) sc_later.nd)) (fun _ _ _ _ _ => (tsd_one (td_cmp (opd_ne hr.units) (vr 10) (pd_ix ixd (vr 1) pd_int (fun _ _ => rfl)) (nomark _)))) (fun _ _ _ _ _ => (vr 10)))
      (bd_one (sd_ret (pd_lst (ad_cons (vr 2) (ad_cons (vr 3) (ad_cons (pd_dget (hu_of hr) (pd_dic3 (by decide) (by decide) (by decide) (vr 4) (vr 7) (pd_callB (cd_sortS) (by rfl) T.sorted (by decide +kernel) (ad_cons (pd_op opd_add (vr 7) (pd_lst (ad_cons (pd_ix ixd (vr 1) pd_int (fun _ _ => rfl)) ad_nil))) ad_nil))) (pd_ix ixd (vr 1) pd_int (fun _ _ => rfl)) (fun _ _ => rfl)) ad_nil)))))))))))))) hk
abbrev P_step : List Str := ["_law_purse_here", "_law_stand"]
theorem sc_step : FnScope N_step P_step (defScope s_step) := ⟨rfl, rfl, rfl, by decide +kernel, rfl, by decide +kernel, by decide +kernel⟩
theorem ok_step {P_ : Program} {w : World} {K : PySem.W.Frag} {mg : Str → Option Value} {base : Heap} {C P f : Addr} {fd : FuncData} (T : Tx K mg C P) (F_draw : Fok P_ w K mg base "_law_draw" 1 2 (sd_draw C)) (F_marks : Fok P_ w K mg base "_law_marks" 2 4 (sd_marks C)) (F_names : Fok P_ w K mg base "_law_names" 1 1 (sd_names C)) (F_pick : Fok P_ w K mg base "_law_pick" 2 2 (sd_pick C)) (F_taken : Fok P_ w K mg base "_law_taken" 1 1 (sd_taken C))
    (F : FunD K "_law_step" "_law_step" (defArgs s_step) (defBody s_step) (defScope s_step) [] [] f fd) (hk : Keeps N_step 2 (sd_step C) (db_step C)) : FnOk P_ w K mg base (L2.CX P_ w) 3 f fd P_step (spOf K 2 (sd_step C)) := 
  okD F sc_step rfl (fun cdv A fr s H E hr => (bd_cons (sd_asg (vr 1) (gd_lst (n := 3) rfl (gds_cons (gd_name (i := 2) sc_step.nd) (gds_cons (gd_name (i := 3) sc_step.nd) (gds_cons (gd_name (i := 4) sc_step.nd) gds_nil)))))
      (bd_cons (sd_set 5 sc_step.nd (pd_op opd_add (pd_op opd_add (pd_fn F_names (hr.mono (by decide)) tkF (ad_cons (vr 2) ad_nil)) (pd_fn F_names (hr.mono (by decide)) tkF (ad_cons (vr 3) ad_nil))) (pd_lst (ad_cons pd_str (ad_cons pd_str ad_nil)))))
      (bd_cons (sd_set 6 sc_step.nd (pd_fn F_draw (hr.mono (by decide)) tkF (ad_cons (vr 0) (ad_cons pd_int ad_nil))))
      (bd_cons (sd_if (td_cmp opd_lt (vr 6) pd_int (nomark _)) (bd_cons (sd_set 7 sc_step.nd (pd_fn F_taken (hr.mono (by decide)) tkF (ad_cons (pd_ix ixd (vr 2) pd_int (fun _ _ => rfl)) ad_nil)))
      (bd_cons (sd_set 8 sc_step.nd (pd_if (td_cmp opd_lt (pd_callB (cd_len) (by rfl) T.len (by decide +kernel) (ad_cons (vr 7) ad_nil)) (pd_ix ixd (vr 2) pd_int (fun _ _ => rfl)) (nomark _)) (pd_fn F_marks (hr.mono (by decide)) tkF (ad_cons (vr 0) (ad_cons (pd_ix ixd (vr 2) pd_int (fun _ _ => rfl)) (ad_cons (vr 7) (ad_cons pd_int ad_nil))))) (pd_tup (ad_cons pd_int ad_nil))))
      (bd_cons (sd_set 9 sc_step.nd (pd_fn F_pick (hr.mono (by decide)) tkF (ad_cons (vr 0) (ad_cons (pd_lst (ad_cons pd_str (ad_cons pd_str (ad_cons pd_str (ad_cons (pd_ix ixd (vr 5) pd_int (fun _ _ => rfl)) ad_nil))))) ad_nil))))
      (bd_one (sd_ret (pd_tup (ad_cons pd_str (ad_cons (vr 9) (ad_cons (pd_fn F_pick (hr.mono (by decide)) tkF (ad_cons (vr 0) (ad_cons (pd_lst (ad_cons pd_str (ad_cons pd_str (ad_cons pd_str ad_nil)))) ad_nil))) (ad_cons (vr 8) ad_nil)))))))))) bd_nil)
      (bd_cons (sd_if (td_cmp (opd_eq hr.units) (vr 6) pd_int (nomark _)) (bd_one (sd_ret (pd_tup (ad_cons pd_str ad_nil)))) bd_nil)
      (bd_cons (sd_if (td_cmp (opd_eq hr.units) (vr 6) pd_int (nomark _)) (bd_one (sd_ret (pd_tup (ad_cons pd_str (ad_cons (pd_fn F_pick (hr.mono (by decide)) tkF (ad_cons (vr 0) (ad_cons (vr 5) ad_nil))) ad_nil))))) bd_nil)
      (bd_cons (sd_if (td_cmp opd_lt (vr 6) pd_int (nomark _)) (bd_cons (sd_set 10 sc_step.nd (pd_lstC (ad_cons (pd_fn F_pick (hr.mono (by decide)) tkF (ad_cons (vr 0) (ad_cons (vr 5) ad_nil))) (ad_cons (pd_fn F_pick (hr.mono (by decide)) tkF (ad_cons (vr 0) (ad_cons (vr 5) ad_nil))) ad_nil))))
      (bd_cons (sd_if (td_w (wd_and (td_notN (vr 3)) (wd_and1 (td_cmp opd_gt (pd_fn F_draw (hr.mono (by decide)) tkF (ad_cons (vr 0) (ad_cons pd_int ad_nil))) pd_int (nomark _))))) (bd_one (sd_asg (pd_fn F_pick (hr.mono (by decide)) tkF (ad_cons (vr 0) (ad_cons (pd_op opd_add (pd_slice sld (pd_revL (pd_fn F_names (hr.mono (by decide)) tkF (ad_cons (vr 3) ad_nil))) od_no (od_some pd_int)) (pd_fn F_names (hr.mono (by decide)) tkF (ad_cons (vr 3) ad_nil))) ad_nil))) (gd_sub (vr 10) pd_int))) bd_nil)
      (bd_one (sd_ret (pd_tup (ad_cons (pd_fn F_pick (hr.mono (by decide)) tkF (ad_cons (vr 0) (ad_cons (pd_lst (ad_cons pd_str (ad_cons pd_str (ad_cons pd_str ad_nil)))) ad_nil))) (ad_cons (pd_ix ixd (vr 10) pd_int (fun _ _ => rfl)) (ad_cons (pd_ix ixd (vr 10) pd_int (fun _ _ => rfl)) ad_nil)))))))) bd_nil)
      (bd_one (sd_ret (pd_tup (ad_cons (pd_fn F_pick (hr.mono (by decide)) tkF (ad_cons (vr 0) (ad_cons (pd_lst (ad_cons pd_str (ad_cons pd_str (ad_cons pd_str (ad_cons pd_str ad_nil))))) ad_nil))) (ad_cons (pd_fn F_pick (hr.mono (by decide)) tkF (ad_cons (vr 0) (ad_cons (pd_op opd_add (pd_op opd_add (vr 5) (vr 4)) (vr 4)) ad_nil))) ad_nil))))))))))))) hk
abbrev P_Ring___contains__ : List Str := ["self", "x"]
theorem sc_Ring___contains__ : FnScope N_Ring___contains__ P_Ring___contains__ (defScope s_Ring___contains__) := ⟨rfl, rfl, rfl, by decide +kernel, rfl, by decide +kernel, by decide +kernel⟩
theorem ok_Ring___contains__ {P_ : Program} {w : World} {K : PySem.W.Frag} {mg : Str → Option Value} {base : Heap} {C P f : Addr} {fd : FuncData} (T : Tx K mg C P) (P_Ring_names : Pok P_ w K mg base C "names" 1 (sd_Ring_names C)) (F_is_word_of : Fok P_ w K mg base "is_word_of" 1 2 (sd_is_word_of C))
    (F : FunD K "__contains__" "Ring.__contains__" (defArgs s_Ring___contains__) (defBody s_Ring___contains__) (defScope s_Ring___contains__) [] [] f fd) (hk : Keeps N_Ring___contains__ 2 (sd_Ring___contains__ C) (db_Ring___contains__ C)) : FnOk P_ w K mg base (L2.CX P_ w) 3 f fd P_Ring___contains__ (spOf K 2 (sd_Ring___contains__ C)) := 
  okD F sc_Ring___contains__ rfl (fun cdv A fr s H E hr => (bd_one (sd_ret (pd_fn F_is_word_of (hr.mono (by decide)) tkF (ad_cons (vr 1) (ad_cons (pd_prop P_Ring_names (hr.mono (by decide)) (vr 0)) ad_nil)))))) hk
abbrev P_check_point : List Str := ["ring", "point"]
theorem sc_check_point : FnScope N_check_point P_check_point (defScope s_check_point) := ⟨rfl, rfl, rfl, by decide +kernel, rfl, by decide +kernel, by decide +kernel⟩
theorem ok_check_point {P_ : Program} {w : World} {K : PySem.W.Frag} {mg : Str → Option Value} {base : Heap} {C P f : Addr} {fd : FuncData} (T : Tx K mg C P) (P_Ring_points : Pok P_ w K mg base C "points" 1 (sd_Ring_points C)) (F_is_from_to : Fok P_ w K mg base "is_from_to" 2 3 (sd_is_from_to C))
    (F : FunD K "check_point" "check_point" (defArgs s_check_point) (defBody s_check_point) (defScope s_check_point) [] [] f fd) (hk : Keeps N_check_point 2 (sd_check_point C) (db_check_point C)) : FnOk P_ w K mg base (L2.CX P_ w) 3 f fd P_check_point (spOf K 2 (sd_check_point C)) := 
  okD F sc_check_point rfl (fun cdv A fr s H E hr => (bd_one (sd_if (td_not (td_tru (pd_fn F_is_from_to (hr.mono (by decide)) tkF (ad_cons (vr 1) (ad_cons pd_int (ad_cons (pd_op opd_sub (pd_prop P_Ring_points (hr.mono (by decide)) (vr 0)) pd_int) ad_nil)))))) (bd_one sd_never) bd_nil))) hk
abbrev P_new_racks_first : List Str := ["ring", "walk"]
theorem sc_new_racks_first : FnScope N_new_racks_first P_new_racks_first (defScope s_new_racks_first) := ⟨rfl, rfl, rfl, by decide +kernel, rfl, by decide +kernel, by decide +kernel⟩
theorem ok_new_racks_first {P_ : Program} {w : World} {K : PySem.W.Frag} {mg : Str → Option Value} {base : Heap} {C P f : Addr} {fd : FuncData} (T : Tx K mg C P) (P_Ring_hosts : Pok P_ w K mg base C "hosts" 1 (sd_Ring_hosts C))
    (F : FunD K "new_racks_first" "new_racks_first" (defArgs s_new_racks_first) (defBody s_new_racks_first) (defScope s_new_racks_first) [] [] f fd) (hk : Keeps N_new_racks_first 2 (sd_new_racks_first C) (db_new_racks_first C)) : FnOk P_ w K mg base (L2.CX P_ w) 3 f fd P_new_racks_first (spOf K 2 (sd_new_racks_first C)) := 
  okD F sc_new_racks_first rfl (fun cdv A fr s H E hr => (bd_cons (sd_setDc 2 (own := [("name", 6), ("rack", 7), ("_", 8)]) rfl sc_new_racks_first.nd (sw_trueD rfl rfl rfl (by decide +kernel)) (id_seq (pd_prop P_Ring_hosts (hr.mono (by decide)) (vr 0))) (blkOk_by (N := N_new_racks_first) (sc := (defScope s_new_racks_first)) (by decide +kernel)) (fun _ _ _ _ _ => (gw_tup (n := 3) rfl (gws_cons (gw_name (i := 6) sc_new_racks_first.nd) (gws_cons (gw_name (i := 7) sc_new_racks_first.nd) (gws_cons (gw_name (i := 8) sc_new_racks_first.nd) gws_nil))))) (fun _ _ _ _ _ => tsd_nil) (fun _ _ _ _ _ => (vr 6)) (fun _ _ _ _ _ => (vr 7)))
      (bd_cons (sd_set 3 sc_new_racks_first.nd (pd_lstC ad_nil))
      (bd_cons (sd_set 4 sc_new_racks_first.nd (pd_lstC ad_nil))
      (bd_cons (sd_set 5 sc_new_racks_first.nd (pd_lstC ad_nil))
      (bd_cons (sd_for poF rfl (id_seq (vr 1)) (gd_name (i := 6) sc_new_racks_first.nd) (bd_cons (sd_set 7 sc_new_racks_first.nd (pd_dget (hu_of hr) (vr 2) (vr 6) (fun _ _ => rfl)))
      (bd_one (sd_if (td_cmp opd_in (vr 7) (vr 3) (by rfl)) (bd_one (sd_expr (pd_app (vr 5) (ad_cons (vr 6) ad_nil)))) (bd_cons (sd_expr (pd_app (vr 3) (ad_cons (vr 7) ad_nil)))
      (bd_one (sd_expr (pd_app (vr 4) (ad_cons (vr 6) ad_nil)))))))))
      (bd_one (sd_ret (pd_callTy (cd_tuple) (by rfl) T.tuple (by decide +kernel) (ad_cons (pd_op opd_add (vr 4) (vr 5)) ad_nil)))))))))) hk
abbrev P_Plan__state : List Str := ["self", "moment"]
theorem sc_Plan__state : FnScope N_Plan__state P_Plan__state (defScope s_Plan__state) := ⟨rfl, rfl, rfl, by decide +kernel, rfl, by decide +kernel, by decide +kernel⟩
theorem ok_Plan__state {P_ : Program} {w : World} {K : PySem.W.Frag} {mg : Str → Option Value} {base : Heap} {C P f : Addr} {fd : FuncData} (T : Tx K mg C P) (F_is_from_to : Fok P_ w K mg base "is_from_to" 2 3 (sd_is_from_to C))
    (F : FunD K "_state" "Plan._state" (defArgs s_Plan__state) (defBody s_Plan__state) (defScope s_Plan__state) [] [] f fd) (hk : Keeps N_Plan__state 2 (sd_Plan__state C P) (db_Plan__state C P)) : FnOk P_ w K mg base (L2.CX P_ w) 3 f fd P_Plan__state (spOf K 2 (sd_Plan__state C P)) := 
  okD F sc_Plan__state rfl (fun cdv A fr s H E hr => (bd_cons (sd_if (td_not (td_tru (pd_fn F_is_from_to (hr.mono (by decide)) tkF (ad_cons (vr 1) (ad_cons pd_int (ad_cons (pd_callB (cd_len) (by rfl) T.len (by decide +kernel) (ad_cons (pd_fld (vr 0) T.cPlan (T.naP "_steps" (by decide))) ad_nil)) ad_nil)))))) (bd_one sd_never) bd_nil)
      (bd_one (sd_ret (pd_ix ixd (pd_fld (vr 0) T.cPlan (T.naP "_states" (by decide))) (vr 1) (fun _ _ => rfl)))))) hk
abbrev P_is_next_host : List Str := ["value", "points", "hosts"]
theorem sc_is_next_host : FnScope N_is_next_host P_is_next_host (defScope s_is_next_host) := ⟨rfl, rfl, rfl, by decide +kernel, rfl, by decide +kernel, by decide +kernel⟩
theorem ok_is_next_host {P_ : Program} {w : World} {K : PySem.W.Frag} {mg : Str → Option Value} {base : Heap} {C P f : Addr} {fd : FuncData} (T : Tx K mg C P) (F_are_free_marks : Fok P_ w K mg base "are_free_marks" 3 3 (sd_are_free_marks C)) (F_is_free_name : Fok P_ w K mg base "is_free_name" 2 2 (sd_is_free_name C)) (F_is_name : Fok P_ w K mg base "is_name" 1 1 (sd_is_name C))
    (F : FunD K "is_next_host" "is_next_host" (defArgs s_is_next_host) (defBody s_is_next_host) (defScope s_is_next_host) [] [] f fd) (hk : Keeps N_is_next_host 3 (sd_is_next_host C) (db_is_next_host C)) : FnOk P_ w K mg base (L2.CX P_ w) 4 f fd P_is_next_host (spOf K 3 (sd_is_next_host C)) := 
  okD F sc_is_next_host rfl (fun cdv A fr s H E hr => (bd_cons (sd_if (td_w (wd_or (td_not (td_tru (pd_isi (vr 0) T.isinstance T.tuple (by decide +kernel)))) (wd_or1 (td_cmp (opd_ne hr.units) (pd_callB (cd_len) (by rfl) T.len (by decide +kernel) (ad_cons (vr 0) ad_nil)) pd_int (nomark _))))) (bd_one (sd_ret pd_bl)) bd_nil)
      (bd_cons (sd_asg (vr 0) (gd_tup (n := 3) rfl (gds_cons (gd_name (i := 3) sc_is_next_host.nd) (gds_cons (gd_name (i := 4) sc_is_next_host.nd) (gds_cons (gd_name (i := 5) sc_is_next_host.nd) gds_nil)))))
      (bd_one (sd_ret (pd_and (pd_fn F_is_free_name (hr.mono (by decide)) tkF (ad_cons (vr 3) (ad_cons (vr 2) ad_nil))) (pd_and (pd_fn F_is_name (hr.mono (by decide)) tkF (ad_cons (vr 4) ad_nil)) (pd_one (pd_fn F_are_free_marks (hr.mono (by decide)) tkF (ad_cons (vr 5) (ad_cons (vr 1) (ad_cons (vr 2) ad_nil)))))))))))) hk
abbrev P_steps : List Str := ["_law_purse_here", "_law_ring_here", "_law_many"]
theorem sc_steps : FnScope N_steps P_steps (defScope s_steps) := ⟨rfl, rfl, rfl, by decide +kernel, rfl, by decide +kernel, by decide +kernel⟩
theorem ok_steps {P_ : Program} {w : World} {K : PySem.W.Frag} {mg : Str → Option Value} {base : Heap} {C P f : Addr} {fd : FuncData} (T : Tx K mg C P) (F_later : Fok P_ w K mg base "_law_later" 3 2 (sd_later C)) (F_step : Fok P_ w K mg base "_law_step" 3 2 (sd_step C))
    (F : FunD K "_law_steps" "_law_steps" (defArgs s_steps) (defBody s_steps) (defScope s_steps) [] [] f fd) (hk : Keeps N_steps 3 (sd_steps C) (db_steps C)) : FnOk P_ w K mg base (L2.CX P_ w) 4 f fd P_steps (spOf K 3 (sd_steps C)) := 
  okD F sc_steps rfl (fun cdv A fr s H E hr => (bd_cons (sd_par2 3 4 rfl sc_steps.nd (ad_cons (pd_lstC (ad_cons (pd_lst (ad_cons (vr 1) (ad_cons pd_non (ad_cons (pd_lst ad_nil) ad_nil)))) ad_nil)) (ad_cons (pd_lstC ad_nil) ad_nil)))
      (bd_cons (sd_for poF rfl (id_rng1 (by rfl) T.range (ad_cons (vr 2) ad_nil)) (gd_name (i := 5) sc_steps.nd) (bd_cons (sd_set 6 sc_steps.nd (pd_fn F_step (hr.mono (by decide)) tkF (ad_cons (vr 0) (ad_cons (pd_ix ixd (vr 3) (pd_un und_neg pd_int) (fun _ _ => rfl)) ad_nil))))
      (bd_cons (sd_set 7 sc_steps.nd (pd_fn F_later (hr.mono (by decide)) tkF (ad_cons (pd_ix ixd (vr 3) (pd_un und_neg pd_int) (fun _ _ => rfl)) (ad_cons (vr 6) ad_nil))))
      (bd_one (sd_if (td_notN (vr 7)) (bd_cons (sd_expr (pd_app (vr 4) (ad_cons (vr 6) ad_nil)))
      (bd_one (sd_expr (pd_app (vr 3) (ad_cons (vr 7) ad_nil))))) bd_nil)))))
      (bd_one (sd_ret (pd_tup (ad_cons (vr 4) (ad_cons (vr 3) ad_nil)))))))) hk
abbrev P_can_give : List Str := ["state", "taker", "giver"]
theorem sc_can_give : FnScope N_can_give P_can_give (defScope s_can_give) := ⟨rfl, rfl, rfl, by decide +kernel, rfl, by decide +kernel, by decide +kernel⟩
theorem ok_can_give {P_ : Program} {w : World} {K : PySem.W.Frag} {mg : Str → Option Value} {base : Heap} {C P f : Addr} {fd : FuncData} (T : Tx K mg C P) (F_Ring___contains__ : Mok P_ w K mg base C "__contains__" 3 2 (sd_Ring___contains__ C))
    (F : FunD K "can_give" "can_give" (defArgs s_can_give) (defBody s_can_give) (defScope s_can_give) [] [] f fd) (hk : Keeps N_can_give 3 (sd_can_give C) (db_can_give C)) : FnOk P_ w K mg base (L2.CX P_ w) 4 f fd P_can_give (spOf K 3 (sd_can_give C)) := 
  okD F sc_can_give rfl (fun cdv A fr s H E hr => (bd_cons (sd_asg (vr 0) (gd_tup (n := 3) rfl (gds_cons (gd_name (i := 3) sc_can_give.nd) (gds_cons (gd_name (i := 4) sc_can_give.nd) (gds_cons (gd_name (i := 5) sc_can_give.nd) gds_nil)))))
      (bd_one (sd_ret (pd_and (pd_cmp (opd_inO F_Ring___contains__ (hr.mono (by decide))) (vr 2) (vr 3) (by rfl)) (pd_and (pd_cmp (opd_ne hr.units) (vr 2) (vr 1) (nomark _)) (pd_and (pd_cmp opd_ni (vr 2) (vr 5) (by rfl)) (pd_one (pd_cmp opd_ni (vr 1) (vr 5) (by rfl)))))))))) hk
abbrev P_is_known : List Str := ["state", "name"]
theorem sc_is_known : FnScope N_is_known P_is_known (defScope s_is_known) := ⟨rfl, rfl, rfl, by decide +kernel, rfl, by decide +kernel, by decide +kernel⟩
theorem ok_is_known {P_ : Program} {w : World} {K : PySem.W.Frag} {mg : Str → Option Value} {base : Heap} {C P f : Addr} {fd : FuncData} (T : Tx K mg C P) (F_Ring___contains__ : Mok P_ w K mg base C "__contains__" 3 2 (sd_Ring___contains__ C))
    (F : FunD K "is_known" "is_known" (defArgs s_is_known) (defBody s_is_known) (defScope s_is_known) [] [] f fd) (hk : Keeps N_is_known 2 (sd_is_known C) (db_is_known C)) : FnOk P_ w K mg base (L2.CX P_ w) 4 f fd P_is_known (spOf K 2 (sd_is_known C)) := 
  okD F sc_is_known rfl (fun cdv A fr s H E hr => (bd_cons (sd_asg (vr 0) (gd_tup (n := 3) rfl (gds_cons (gd_name (i := 2) sc_is_known.nd) (gds_cons (gd_name (i := 3) sc_is_known.nd) (gds_cons (gd_name (i := 4) sc_is_known.nd) gds_nil)))))
      (bd_one (sd_ret (pd_or (pd_cmp (opd_inO F_Ring___contains__ (hr.mono (by decide))) (vr 1) (vr 2) (by rfl)) (pd_one (pd_and (pd_notN (vr 3)) (pd_one (pd_cmp (opd_inO F_Ring___contains__ (hr.mono (by decide))) (vr 1) (vr 3) (by rfl)))))))))) hk
abbrev P_check_name : List Str := ["ring", "name"]
theorem sc_check_name : FnScope N_check_name P_check_name (defScope s_check_name) := ⟨rfl, rfl, rfl, by decide +kernel, rfl, by decide +kernel, by decide +kernel⟩
theorem ok_check_name {P_ : Program} {w : World} {K : PySem.W.Frag} {mg : Str → Option Value} {base : Heap} {C P f : Addr} {fd : FuncData} (T : Tx K mg C P) (F_Ring___contains__ : Mok P_ w K mg base C "__contains__" 3 2 (sd_Ring___contains__ C))
    (F : FunD K "check_name" "check_name" (defArgs s_check_name) (defBody s_check_name) (defScope s_check_name) [] [] f fd) (hk : Keeps N_check_name 2 (sd_check_name C) (db_check_name C)) : FnOk P_ w K mg base (L2.CX P_ w) 4 f fd P_check_name (spOf K 2 (sd_check_name C)) := 
  okD F sc_check_name rfl (fun cdv A fr s H E hr => (bd_one (sd_if (td_cmp (opd_niO F_Ring___contains__ (hr.mono (by decide))) (vr 1) (vr 0) (by rfl)) (bd_one sd_never) bd_nil))) hk
abbrev P_behind_settle : List Str := ["state", "step"]
theorem sc_behind_settle : FnScope N_behind_settle P_behind_settle (defScope s_behind_settle) := ⟨rfl, rfl, rfl, by decide +kernel, rfl, by decide +kernel, by decide +kernel⟩
theorem ok_behind_settle {P_ : Program} {w : World} {K : PySem.W.Frag} {mg : Str → Option Value} {base : Heap} {C P f : Addr} {fd : FuncData} (T : Tx K mg C P) (F_Ring___contains__ : Mok P_ w K mg base C "__contains__" 3 2 (sd_Ring___contains__ C))
    (F : FunD K "behind_settle" "behind_settle" (defArgs s_behind_settle) (defBody s_behind_settle) (defScope s_behind_settle) [] [] f fd) (hk : Keeps N_behind_settle 2 (sd_behind_settle C) (db_behind_settle C)) : FnOk P_ w K mg base (L2.CX P_ w) 4 f fd P_behind_settle (spOf K 2 (sd_behind_settle C)) := 
  okD F sc_behind_settle rfl (fun cdv A fr s H E hr => (bd_cons (sd_asg (vr 0) (gd_tup (n := 3) rfl (gds_cons (gd_name (i := 2) sc_behind_settle.nd) (gds_cons (gd_name (i := 3) sc_behind_settle.nd) (gds_cons (gd_name (i := 4) sc_behind_settle.nd) gds_nil)))))
      (bd_cons (sd_if (td_isN (vr 3)) (bd_one (sd_ret pd_non)) bd_nil)
      (bd_one (sd_ret (pd_tup (ad_cons (vr 3) (ad_cons pd_non (ad_cons (pd_callTy (cd_tuple) (by rfl) T.tuple (by decide +kernel) (ad_cons (pd_lc (own := [("name", 5)]) rfl sc_behind_settle.nd (id_seq (vr 4)) (blkOk_by (N := N_behind_settle) (sc := (defScope s_behind_settle)) (by decide +kernel)) (fun _ _ _ _ _ => (gw_name (i := 5) sc_behind_settle.nd)) (fun _ _ _ _ _ => (tsd_one (td_cmp (opd_inO F_Ring___contains__ (hr.mono (by decide))) (vr 5) (vr 3) (by rfl)))) (fun _ _ _ _ _ => (vr 5))) ad_nil)) ad_nil))))))))) hk
abbrev P_keepers_in : List Str := ["ring", "walk"]
theorem sc_keepers_in : FnScope N_keepers_in P_keepers_in (defScope s_keepers_in) := ⟨rfl, rfl, rfl, by decide +kernel, rfl, by decide +kernel, by decide +kernel⟩
theorem ok_keepers_in {P_ : Program} {w : World} {K : PySem.W.Frag} {mg : Str → Option Value} {base : Heap} {C P f : Addr} {fd : FuncData} (T : Tx K mg C P) (P_Ring_factor : Pok P_ w K mg base C "factor" 1 (sd_Ring_factor C)) (P_Ring_spread : Pok P_ w K mg base C "spread" 1 (sd_Ring_spread C)) (F_new_racks_first : Fok P_ w K mg base "new_racks_first" 3 2 (sd_new_racks_first C))
    (F : FunD K "keepers_in" "keepers_in" (defArgs s_keepers_in) (defBody s_keepers_in) (defScope s_keepers_in) [] [] f fd) (hk : Keeps N_keepers_in 2 (sd_keepers_in C) (db_keepers_in C)) : FnOk P_ w K mg base (L2.CX P_ w) 4 f fd P_keepers_in (spOf K 2 (sd_keepers_in C)) := 
  okD F sc_keepers_in rfl (fun cdv A fr s H E hr => (bd_cons (sd_set 2 sc_keepers_in.nd (pd_if (td_cmp (opd_eq hr.units) (pd_prop P_Ring_spread (hr.mono (by decide)) (vr 0)) pd_str (nomark _)) (pd_fn F_new_racks_first (hr.mono (by decide)) tkF (ad_cons (vr 0) (ad_cons (vr 1) ad_nil))) (vr 1)))
      (bd_one (sd_ret (pd_slice sld (vr 2) od_no (od_some (pd_prop P_Ring_factor (hr.mono (by decide)) (vr 0)))))))) hk
abbrev P_Ring_walk : List Str := ["self", "point"]
theorem sc_Ring_walk : FnScope N_Ring_walk P_Ring_walk (defScope s_Ring_walk) := ⟨rfl, rfl, rfl, by decide +kernel, rfl, by decide +kernel, by decide +kernel⟩
theorem ok_Ring_walk {P_ : Program} {w : World} {K : PySem.W.Frag} {mg : Str → Option Value} {base : Heap} {C P f : Addr} {fd : FuncData} (T : Tx K mg C P) (F_Ring__way : Mok P_ w K mg base C "_way" 1 3 (sd_Ring__way C)) (F_check_point : Fok P_ w K mg base "check_point" 3 2 (sd_check_point C))
    (F : FunD K "walk" "Ring.walk" (defArgs s_Ring_walk) (defBody s_Ring_walk) (defScope s_Ring_walk) [] [] f fd) (hk : Keeps N_Ring_walk 2 (sd_Ring_walk C) (db_Ring_walk C)) : FnOk P_ w K mg base (L2.CX P_ w) 4 f fd P_Ring_walk (spOf K 2 (sd_Ring_walk C)) := 
  okD F sc_Ring_walk rfl (fun cdv A fr s H E hr => (bd_cons (sd_expr (pd_fn F_check_point (hr.mono (by decide)) tkF (ad_cons (vr 0) (ad_cons (vr 1) ad_nil))))
      (bd_cons (sd_set 2 sc_Ring_walk.nd (pd_callB (cd_sortP) (by rfl) T.sorted (by decide +kernel) (ad_cons (pd_lc (own := [("host", 3)]) rfl sc_Ring_walk.nd (id_seq (pd_fld (vr 0) T.cRing (T.na "_hosts" (by decide)))) (blkOk_by (N := N_Ring_walk) (sc := (defScope s_Ring_walk)) (by decide +kernel)) (fun _ _ _ _ _ => (gw_name (i := 3) sc_Ring_walk.nd)) (fun _ _ _ _ _ => tsd_nil) (fun _ _ _ _ _ => (pd_tup (ad_cons (pd_meth F_Ring__way (hr.mono (by decide)) takes0 (vr 0) (ad_cons (vr 1) (ad_cons (pd_ix ixd (vr 3) pd_int (fun _ _ => rfl)) ad_nil))) (ad_cons (pd_ix ixd (vr 3) pd_int (fun _ _ => rfl)) ad_nil))))) ad_nil)))
      (bd_one (sd_ret (pd_callTy (cd_tuple) (by rfl) T.tuple (by decide +kernel) (ad_cons (pd_lc (own := [("_", 4), ("name", 5)]) rfl sc_Ring_walk.nd (id_seq (vr 2)) (blkOk_by (N := N_Ring_walk) (sc := (defScope s_Ring_walk)) (by decide +kernel)) (fun _ _ _ _ _ => (gw_tup (n := 2) rfl (gws_cons (gw_name (i := 4) sc_Ring_walk.nd) (gws_cons (gw_name (i := 5) sc_Ring_walk.nd) gws_nil)))) (fun _ _ _ _ _ => tsd_nil) (fun _ _ _ _ _ => (vr 5))) ad_nil))))))) hk
abbrev P_Plan_counting : List Str := ["self", "moment"]
theorem sc_Plan_counting : FnScope N_Plan_counting P_Plan_counting (defScope s_Plan_counting) := ⟨rfl, rfl, rfl, by decide +kernel, rfl, by decide +kernel, by decide +kernel⟩
theorem ok_Plan_counting {P_ : Program} {w : World} {K : PySem.W.Frag} {mg : Str → Option Value} {base : Heap} {C P f : Addr} {fd : FuncData} (T : Tx K mg C P) (F_Plan__state : Mok P_ w K mg base P "_state" 3 2 (sd_Plan__state C P))
    (F : FunD K "counting" "Plan.counting" (defArgs s_Plan_counting) (defBody s_Plan_counting) (defScope s_Plan_counting) [] [] f fd) (hk : Keeps N_Plan_counting 2 (sd_Plan_counting C P) (db_Plan_counting C P)) : FnOk P_ w K mg base (L2.CX P_ w) 4 f fd P_Plan_counting (spOf K 2 (sd_Plan_counting C P)) := 
  okD F sc_Plan_counting rfl (fun cdv A fr s H E hr => (bd_one (sd_ret (pd_ix ixd (pd_meth F_Plan__state (hr.mono (by decide)) tkF (vr 0) (ad_cons (vr 1) ad_nil)) pd_int (fun _ _ => rfl))))) hk
abbrev P_check_hosts : List Str := ["points", "hosts"]
theorem sc_check_hosts : FnScope N_check_hosts P_check_hosts (defScope s_check_hosts) := ⟨rfl, rfl, rfl, by decide +kernel, rfl, by decide +kernel, by decide +kernel⟩
theorem ok_check_hosts {P_ : Program} {w : World} {K : PySem.W.Frag} {mg : Str → Option Value} {base : Heap} {C P f : Addr} {fd : FuncData} (T : Tx K mg C P) (F_is_next_host : Fok P_ w K mg base "is_next_host" 4 3 (sd_is_next_host C))
    (F : FunD K "check_hosts" "check_hosts" (defArgs s_check_hosts) (defBody s_check_hosts) (defScope s_check_hosts) [] [] f fd) (hk : Keeps N_check_hosts 2 (sd_check_hosts C) (db_check_hosts C)) : FnOk P_ w K mg base (L2.CX P_ w) 5 f fd P_check_hosts (spOf K 2 (sd_check_hosts C)) := 
  okD F sc_check_hosts rfl (fun cdv A fr s H E hr => (bd_cons (sd_if (td_w (wd_or (td_not (td_tru (pd_isi (vr 1) T.isinstance T.tuple (by decide +kernel)))) (wd_or1 (td_cmp (opd_eq hr.units) (pd_callB (cd_len) (by rfl) T.len (by decide +kernel) (ad_cons (vr 1) ad_nil)) pd_int (nomark _))))) (bd_one sd_never) bd_nil)
      (bd_one (sd_for poF rfl (id_enum (by rfl) T.enumerate (ad_cons (vr 1) ad_nil)) (gd_tup (n := 2) rfl (gds_cons (gd_name (i := 2) sc_check_hosts.nd) (gds_cons (gd_name (i := 3) sc_check_hosts.nd) gds_nil))) (bd_one (sd_if (td_w (wd_or (td_cmp (opd_eq hr.units) (vr 2) (pd_cint T.c_MOST_HOSTS) (nomark _)) (wd_or1 (td_not (td_tru (pd_fn F_is_next_host (hr.mono (by decide)) tkF (ad_cons (vr 3) (ad_cons (vr 0) (ad_cons (pd_slice sld (vr 1) od_no (od_some (vr 2))) ad_nil))))))))) (bd_one sd_never) bd_nil)))))) hk
abbrev P_behind_copy : List Str := ["state", "step"]
theorem sc_behind_copy : FnScope N_behind_copy P_behind_copy (defScope s_behind_copy) := ⟨rfl, rfl, rfl, by decide +kernel, rfl, by decide +kernel, by decide +kernel⟩
theorem ok_behind_copy {P_ : Program} {w : World} {K : PySem.W.Frag} {mg : Str → Option Value} {base : Heap} {C P f : Addr} {fd : FuncData} (T : Tx K mg C P) (F_Ring___contains__ : Mok P_ w K mg base C "__contains__" 3 2 (sd_Ring___contains__ C)) (F_can_give : Fok P_ w K mg base "can_give" 4 3 (sd_can_give C))
    (F : FunD K "behind_copy" "behind_copy" (defArgs s_behind_copy) (defBody s_behind_copy) (defScope s_behind_copy) [] [] f fd) (hk : Keeps N_behind_copy 2 (sd_behind_copy C) (db_behind_copy C)) : FnOk P_ w K mg base (L2.CX P_ w) 5 f fd P_behind_copy (spOf K 2 (sd_behind_copy C)) := 
  okD F sc_behind_copy rfl (fun cdv A fr s H E hr => (bd_cons (sd_asg (vr 0) (gd_tup (n := 3) rfl (gds_cons (gd_name (i := 2) sc_behind_copy.nd) (gds_cons (gd_name (i := 3) sc_behind_copy.nd) (gds_cons (gd_name (i := 2) sc_behind_copy.nd) gds_nil)))))
      (bd_cons (sd_asg (vr 1) (gd_tup (n := 3) rfl (gds_cons (gd_name (i := 2) sc_behind_copy.nd) (gds_cons (gd_name (i := 4) sc_behind_copy.nd) (gds_cons (gd_name (i := 5) sc_behind_copy.nd) gds_nil)))))
      (bd_cons (sd_if (td_w (wd_or (td_isN (vr 3)) (wd_or (td_cmp (opd_niO F_Ring___contains__ (hr.mono (by decide))) (vr 4) (vr 3) (by rfl)) (wd_or1 (td_not (td_tru (pd_fn F_can_give (hr.mono (by decide)) tkF (ad_cons (vr 0) (ad_cons (vr 4) (ad_cons (vr 5) ad_nil)))))))))) (bd_one (sd_ret pd_non)) bd_nil)
      (bd_one (sd_ret (vr 0))))))) hk
abbrev P_behind_down : List Str := ["state", "step"]
theorem sc_behind_down : FnScope N_behind_down P_behind_down (defScope s_behind_down) := ⟨rfl, rfl, rfl, by decide +kernel, rfl, by decide +kernel, by decide +kernel⟩
theorem ok_behind_down {P_ : Program} {w : World} {K : PySem.W.Frag} {mg : Str → Option Value} {base : Heap} {C P f : Addr} {fd : FuncData} (T : Tx K mg C P) (F_is_known : Fok P_ w K mg base "is_known" 4 2 (sd_is_known C))
    (F : FunD K "behind_down" "behind_down" (defArgs s_behind_down) (defBody s_behind_down) (defScope s_behind_down) [] [] f fd) (hk : Keeps N_behind_down 2 (sd_behind_down C) (db_behind_down C)) : FnOk P_ w K mg base (L2.CX P_ w) 5 f fd P_behind_down (spOf K 2 (sd_behind_down C)) := 
  okD F sc_behind_down rfl (fun cdv A fr s H E hr => (bd_cons (sd_asg (vr 0) (gd_tup (n := 3) rfl (gds_cons (gd_name (i := 2) sc_behind_down.nd) (gds_cons (gd_name (i := 3) sc_behind_down.nd) (gds_cons (gd_name (i := 4) sc_behind_down.nd) gds_nil)))))
      (bd_cons (sd_if (td_w (wd_or (td_not (td_tru (pd_fn F_is_known (hr.mono (by decide)) tkF (ad_cons (vr 0) (ad_cons (pd_ix ixd (vr 1) pd_int (fun _ _ => rfl)) ad_nil))))) (wd_or1 (td_cmp opd_in (pd_ix ixd (vr 1) pd_int (fun _ _ => rfl)) (vr 4) (by rfl))))) (bd_one (sd_ret pd_non)) bd_nil)
      (bd_one (sd_ret (pd_tup (ad_cons (vr 2) (ad_cons (vr 3) (ad_cons (pd_callTy (cd_tuple) (by rfl) T.tuple (by decide +kernel) (ad_cons (pd_callB (cd_sortS) (by rfl) T.sorted (by decide +kernel) (ad_cons (pd_op opd_add (vr 4) (pd_slice sld (vr 1) (od_some pd_int) od_no)) ad_nil)) ad_nil)) ad_nil))))))))) hk
abbrev P_behind_repair : List Str := ["state", "step"]
theorem sc_behind_repair : FnScope N_behind_repair P_behind_repair (defScope s_behind_repair) := ⟨rfl, rfl, rfl, by decide +kernel, rfl, by decide +kernel, by decide +kernel⟩
theorem ok_behind_repair {P_ : Program} {w : World} {K : PySem.W.Frag} {mg : Str → Option Value} {base : Heap} {C P f : Addr} {fd : FuncData} (T : Tx K mg C P) (F_Ring___contains__ : Mok P_ w K mg base C "__contains__" 3 2 (sd_Ring___contains__ C)) (F_can_give : Fok P_ w K mg base "can_give" 4 3 (sd_can_give C))
    (F : FunD K "behind_repair" "behind_repair" (defArgs s_behind_repair) (defBody s_behind_repair) (defScope s_behind_repair) [] [] f fd) (hk : Keeps N_behind_repair 2 (sd_behind_repair C) (db_behind_repair C)) : FnOk P_ w K mg base (L2.CX P_ w) 5 f fd P_behind_repair (spOf K 2 (sd_behind_repair C)) := 
  okD F sc_behind_repair rfl (fun cdv A fr s H E hr => (bd_cons (sd_asg (vr 1) (gd_tup (n := 3) rfl (gds_cons (gd_name (i := 2) sc_behind_repair.nd) (gds_cons (gd_name (i := 3) sc_behind_repair.nd) (gds_cons (gd_name (i := 4) sc_behind_repair.nd) gds_nil)))))
      (bd_cons (sd_if (td_w (wd_or (td_cmp (opd_niO F_Ring___contains__ (hr.mono (by decide))) (vr 3) (pd_ix ixd (vr 0) pd_int (fun _ _ => rfl)) (by rfl)) (wd_or1 (td_not (td_tru (pd_fn F_can_give (hr.mono (by decide)) tkF (ad_cons (vr 0) (ad_cons (vr 3) (ad_cons (vr 4) ad_nil))))))))) (bd_one (sd_ret pd_non)) bd_nil)
      (bd_one (sd_ret (vr 0)))))) hk
abbrev P_behind_up : List Str := ["state", "step"]
theorem sc_behind_up : FnScope N_behind_up P_behind_up (defScope s_behind_up) := ⟨rfl, rfl, rfl, by decide +kernel, rfl, by decide +kernel, by decide +kernel⟩
theorem ok_behind_up {P_ : Program} {w : World} {K : PySem.W.Frag} {mg : Str → Option Value} {base : Heap} {C P f : Addr} {fd : FuncData} (T : Tx K mg C P) (F_is_known : Fok P_ w K mg base "is_known" 4 2 (sd_is_known C))
    (F : FunD K "behind_up" "behind_up" (defArgs s_behind_up) (defBody s_behind_up) (defScope s_behind_up) [] [] f fd) (hk : Keeps N_behind_up 2 (sd_behind_up C) (db_behind_up C)) : FnOk P_ w K mg base (L2.CX P_ w) 5 f fd P_behind_up (spOf K 2 (sd_behind_up C)) := 
  okD F sc_behind_up rfl (fun cdv A fr s H E hr => (bd_cons (sd_asg (vr 0) (gd_tup (n := 3) rfl (gds_cons (gd_name (i := 2) sc_behind_up.nd) (gds_cons (gd_name (i := 3) sc_behind_up.nd) (gds_cons (gd_name (i := 4) sc_behind_up.nd) gds_nil)))))
      (bd_cons (sd_if (td_w (wd_or (td_not (td_tru (pd_fn F_is_known (hr.mono (by decide)) tkF (ad_cons (vr 0) (ad_cons (pd_ix ixd (vr 1) pd_int (fun _ _ => rfl)) ad_nil))))) (wd_or1 (td_cmp opd_ni (pd_ix ixd (vr 1) pd_int (fun _ _ => rfl)) (vr 4) (by rfl))))) (bd_one (sd_ret pd_non)) bd_nil)
      (bd_one (sd_ret (pd_tup (ad_cons (vr 2) (ad_cons (vr 3) (ad_cons (pd_callTy (cd_tuple) (by rfl) T.tuple (by decide +kernel) (ad_cons (pd_lc (own := [("name", 5)]) rfl sc_behind_up.nd (id_seq (vr 4)) (blkOk_by (N := N_behind_up) (sc := (defScope s_behind_up)) (by decide +kernel)) (fun _ _ _ _ _ => (gw_name (i := 5) sc_behind_up.nd)) (fun _ _ _ _ _ => (tsd_one (td_cmp (opd_ne hr.units) (vr 5) (pd_ix ixd (vr 1) pd_int (fun _ _ => rfl)) (nomark _)))) (fun _ _ _ _ _ => (vr 5))) ad_nil)) ad_nil))))))))) hk
abbrev P_behind_wipe : List Str := ["state", "step"]
theorem sc_behind_wipe : FnScope N_behind_wipe P_behind_wipe (defScope s_behind_wipe) := ⟨rfl, rfl, rfl, by decide +kernel, rfl, by decide +kernel, by decide +kernel⟩
theorem ok_behind_wipe {P_ : Program} {w : World} {K : PySem.W.Frag} {mg : Str → Option Value} {base : Heap} {C P f : Addr} {fd : FuncData} (T : Tx K mg C P) (F_is_known : Fok P_ w K mg base "is_known" 4 2 (sd_is_known C))
    (F : FunD K "behind_wipe" "behind_wipe" (defArgs s_behind_wipe) (defBody s_behind_wipe) (defScope s_behind_wipe) [] [] f fd) (hk : Keeps N_behind_wipe 2 (sd_behind_wipe C) (db_behind_wipe C)) : FnOk P_ w K mg base (L2.CX P_ w) 5 f fd P_behind_wipe (spOf K 2 (sd_behind_wipe C)) := 
  okD F sc_behind_wipe rfl (fun cdv A fr s H E hr => (bd_cons (sd_if (td_not (td_tru (pd_fn F_is_known (hr.mono (by decide)) tkF (ad_cons (vr 0) (ad_cons (pd_ix ixd (vr 1) pd_int (fun _ _ => rfl)) ad_nil))))) (bd_one (sd_ret pd_non)) bd_nil)
      (bd_one (sd_ret (vr 0))))) hk
abbrev P_Ring_keepers : List Str := ["self", "point"]
theorem sc_Ring_keepers : FnScope N_Ring_keepers P_Ring_keepers (defScope s_Ring_keepers) := ⟨rfl, rfl, rfl, by decide +kernel, rfl, by decide +kernel, by decide +kernel⟩
theorem ok_Ring_keepers {P_ : Program} {w : World} {K : PySem.W.Frag} {mg : Str → Option Value} {base : Heap} {C P f : Addr} {fd : FuncData} (T : Tx K mg C P) (F_Ring_walk : Mok P_ w K mg base C "walk" 4 2 (sd_Ring_walk C)) (F_keepers_in : Fok P_ w K mg base "keepers_in" 4 2 (sd_keepers_in C))
    (F : FunD K "keepers" "Ring.keepers" (defArgs s_Ring_keepers) (defBody s_Ring_keepers) (defScope s_Ring_keepers) [] [] f fd) (hk : Keeps N_Ring_keepers 2 (sd_Ring_keepers C) (db_Ring_keepers C)) : FnOk P_ w K mg base (L2.CX P_ w) 5 f fd P_Ring_keepers (spOf K 2 (sd_Ring_keepers C)) := 
  okD F sc_Ring_keepers rfl (fun cdv A fr s H E hr => (bd_one (sd_ret (pd_fn F_keepers_in (hr.mono (by decide)) tkF (ad_cons (vr 0) (ad_cons (pd_meth F_Ring_walk (hr.mono (by decide)) tkF (vr 0) (ad_cons (vr 1) ad_nil)) ad_nil)))))) hk
abbrev P_Ring___init__ : List Str := ["self", "points", "factor", "spread", "write", "read", "pending", "hosts"]
theorem sc_Ring___init__ : FnScope N_Ring___init__ P_Ring___init__ (defScope s_Ring___init__) := ⟨rfl, rfl, rfl, by decide +kernel, rfl, by decide +kernel, by decide +kernel⟩
theorem ok_Ring___init__ {P_ : Program} {w : World} {K : PySem.W.Frag} {mg : Str → Option Value} {base : Heap} {C P f : Addr} {fd : FuncData} (T : Tx K mg C P) (F_check_hosts : Fok P_ w K mg base "check_hosts" 5 2 (sd_check_hosts C)) (F_is_from_to : Fok P_ w K mg base "is_from_to" 2 3 (sd_is_from_to C)) (F_is_word_of : Fok P_ w K mg base "is_word_of" 1 2 (sd_is_word_of C))
    (F : FunD K "__init__" "Ring.__init__" (defArgs s_Ring___init__) (defBody s_Ring___init__) (defScope s_Ring___init__) [] [] f fd) (hk : Keeps N_Ring___init__ 8 (sd_Ring___init__ C) (db_Ring___init__ C)) : FnOk P_ w K mg base (L2.CX P_ w) 6 f fd P_Ring___init__ (spOf K 8 (sd_Ring___init__ C)) := 
  okD F sc_Ring___init__ rfl (fun cdv A fr s H E hr => (bd_cons (sd_if (td_not (td_tru (pd_fn F_is_from_to (hr.mono (by decide)) tkF (ad_cons (vr 1) (ad_cons pd_int (ad_cons (pd_cint T.c_MOST_POINTS) ad_nil)))))) (bd_one sd_never) bd_nil)
      (bd_cons (sd_if (td_not (td_tru (pd_fn F_is_from_to (hr.mono (by decide)) tkF (ad_cons (vr 2) (ad_cons pd_int (ad_cons (pd_cint T.c_MOST_FACTOR) ad_nil)))))) (bd_one sd_never) bd_nil)
      (bd_cons (sd_if (td_not (td_tru (pd_fn F_is_word_of (hr.mono (by decide)) tkF (ad_cons (vr 3) (ad_cons (pd_ctup T.c_SPREADS) ad_nil))))) (bd_one sd_never) bd_nil)
      (bd_cons (sd_if (td_not (td_tru (pd_fn F_is_from_to (hr.mono (by decide)) tkF (ad_cons (vr 4) (ad_cons pd_int (ad_cons (vr 2) ad_nil)))))) (bd_one sd_never) bd_nil)
      (bd_cons (sd_if (td_not (td_tru (pd_fn F_is_from_to (hr.mono (by decide)) tkF (ad_cons (vr 5) (ad_cons pd_int (ad_cons (vr 2) ad_nil)))))) (bd_one sd_never) bd_nil)
      (bd_cons (sd_if (td_not (td_tru (pd_fn F_is_word_of (hr.mono (by decide)) tkF (ad_cons (vr 6) (ad_cons (pd_ctup T.c_PENDINGS) ad_nil))))) (bd_one sd_never) bd_nil)
      (bd_cons (sd_expr (pd_fn F_check_hosts (hr.mono (by decide)) tkF (ad_cons (vr 1) (ad_cons (vr 7) ad_nil))))
      (bd_cons (sd_fset (vr 0) T.cRing (T.na "_points" (by decide)) (vr 1))
      (bd_cons (sd_fset (vr 0) T.cRing (T.na "_factor" (by decide)) (vr 2))
      (bd_cons (sd_fset (vr 0) T.cRing (T.na "_spread" (by decide)) (vr 3))
      (bd_cons (sd_fset (vr 0) T.cRing (T.na "_write" (by decide)) (vr 4))
      (bd_cons (sd_fset (vr 0) T.cRing (T.na "_read_number" (by decide)) (vr 5))
      (bd_cons (sd_fset (vr 0) T.cRing (T.na "_pending" (by decide)) (vr 6))
      (bd_one (sd_fset (vr 0) T.cRing (T.na "_hosts" (by decide)) (vr 7))))))))))))))))) hk
abbrev P_Plan_keepers : List Str := ["self", "point", "moment"]
theorem sc_Plan_keepers : FnScope N_Plan_keepers P_Plan_keepers (defScope s_Plan_keepers) := ⟨rfl, rfl, rfl, by decide +kernel, rfl, by decide +kernel, by decide +kernel⟩
theorem ok_Plan_keepers {P_ : Program} {w : World} {K : PySem.W.Frag} {mg : Str → Option Value} {base : Heap} {C P f : Addr} {fd : FuncData} (T : Tx K mg C P) (F_Plan_counting : Mok P_ w K mg base P "counting" 4 2 (sd_Plan_counting C P)) (F_Ring_keepers : Mok P_ w K mg base C "keepers" 5 2 (sd_Ring_keepers C)) (F_check_point : Fok P_ w K mg base "check_point" 3 2 (sd_check_point C))
    (F : FunD K "keepers" "Plan.keepers" (defArgs s_Plan_keepers) (defBody s_Plan_keepers) (defScope s_Plan_keepers) [] [] f fd) (hk : Keeps N_Plan_keepers 3 (sd_Plan_keepers C P) (db_Plan_keepers C P)) : FnOk P_ w K mg base (L2.CX P_ w) 6 f fd P_Plan_keepers (spOf K 3 (sd_Plan_keepers C P)) := 
  okD F sc_Plan_keepers rfl (fun cdv A fr s H E hr => (bd_cons (sd_expr (pd_fn F_check_point (hr.mono (by decide)) tkF (ad_cons (pd_fld (vr 0) T.cPlan (T.naP "_ring" (by decide))) (ad_cons (vr 1) ad_nil))))
      (bd_cons (sd_set 3 sc_Plan_keepers.nd (pd_meth F_Plan_counting (hr.mono (by decide)) tkF (vr 0) (ad_cons (vr 2) ad_nil)))
      (bd_one (sd_ret (pd_meth F_Ring_keepers (hr.mono (by decide)) tkF (vr 3) (ad_cons (vr 1) ad_nil))))))) hk
abbrev P_Plan_pendings : List Str := ["self", "point", "moment"]
theorem sc_Plan_pendings : FnScope N_Plan_pendings P_Plan_pendings (defScope s_Plan_pendings) := ⟨rfl, rfl, rfl, by decide +kernel, rfl, by decide +kernel, by decide +kernel⟩
theorem ok_Plan_pendings {P_ : Program} {w : World} {K : PySem.W.Frag} {mg : Str → Option Value} {base : Heap} {C P f : Addr} {fd : FuncData} (T : Tx K mg C P) (F_Plan__state : Mok P_ w K mg base P "_state" 3 2 (sd_Plan__state C P)) (F_Ring_keepers : Mok P_ w K mg base C "keepers" 5 2 (sd_Ring_keepers C)) (F_check_point : Fok P_ w K mg base "check_point" 3 2 (sd_check_point C))
    (F : FunD K "pendings" "Plan.pendings" (defArgs s_Plan_pendings) (defBody s_Plan_pendings) (defScope s_Plan_pendings) [] [] f fd) (hk : Keeps N_Plan_pendings 3 (sd_Plan_pendings C P) (db_Plan_pendings C P)) : FnOk P_ w K mg base (L2.CX P_ w) 6 f fd P_Plan_pendings (spOf K 3 (sd_Plan_pendings C P)) := 
  okD F sc_Plan_pendings rfl (fun cdv A fr s H E hr => (bd_cons (sd_expr (pd_fn F_check_point (hr.mono (by decide)) tkF (ad_cons (pd_fld (vr 0) T.cPlan (T.naP "_ring" (by decide))) (ad_cons (vr 1) ad_nil))))
      (bd_cons (sd_asg (pd_meth F_Plan__state (hr.mono (by decide)) tkF (vr 0) (ad_cons (vr 2) ad_nil)) (gd_tup (n := 3) rfl (gds_cons (gd_name (i := 3) sc_Plan_pendings.nd) (gds_cons (gd_name (i := 4) sc_Plan_pendings.nd) (gds_cons (gd_name (i := 5) sc_Plan_pendings.nd) gds_nil)))))
      (bd_cons (sd_if (td_isN (vr 4)) (bd_one (sd_ret (pd_tup ad_nil))) bd_nil)
      (bd_cons (sd_set 6 sc_Plan_pendings.nd (pd_meth F_Ring_keepers (hr.mono (by decide)) tkF (vr 3) (ad_cons (vr 1) ad_nil)))
      (bd_one (sd_ret (pd_callTy (cd_tuple) (by rfl) T.tuple (by decide +kernel) (ad_cons (pd_lc (own := [("name", 7)]) rfl sc_Plan_pendings.nd (id_seq (pd_meth F_Ring_keepers (hr.mono (by decide)) tkF (vr 4) (ad_cons (vr 1) ad_nil))) (blkOk_by (N := N_Plan_pendings) (sc := (defScope s_Plan_pendings)) (by decide +kernel)) (fun _ _ _ _ _ => (gw_name (i := 7) sc_Plan_pendings.nd)) (fun _ _ _ _ _ => (tsd_one (td_cmp opd_ni (vr 7) (vr 6) (by rfl)))) (fun _ _ _ _ _ => (vr 7))) ad_nil))))))))) hk
abbrev P_mint : List Str := ["_law_ring_here"]
theorem sc_mint : FnScope N_mint P_mint (defScope s_mint) := ⟨rfl, rfl, rfl, by decide +kernel, rfl, by decide +kernel, by decide +kernel⟩
theorem ok_mint {P_ : Program} {w : World} {K : PySem.W.Frag} {mg : Str → Option Value} {base : Heap} {C P f : Addr} {fd : FuncData} (T : Tx K mg C P) (F_Ring : Kok P_ w K mg base "Ring" C 6 8 (sd_Ring___init__ C))
    (F : FunD K "_law_made" "_law_made" (defArgs s_mint) (defBody s_mint) (defScope s_mint) [] [] f fd) (hk : Keeps N_mint 1 (sd_mint C) (db_mint C)) : FnOk P_ w K mg base (L2.CX P_ w) 8 f fd P_mint (spOf K 1 (sd_mint C)) := 
  okD F sc_mint rfl (fun cdv A fr s H E hr => (bd_cons (sd_asg (vr 0) (gd_lst (n := 7) rfl (gds_cons (gd_name (i := 1) sc_mint.nd) (gds_cons (gd_name (i := 2) sc_mint.nd) (gds_cons (gd_name (i := 3) sc_mint.nd) (gds_cons (gd_name (i := 4) sc_mint.nd) (gds_cons (gd_name (i := 5) sc_mint.nd) (gds_cons (gd_name (i := 6) sc_mint.nd) (gds_cons (gd_name (i := 7) sc_mint.nd) gds_nil)))))))))
      (bd_one (sd_ret (pd_make F_Ring (hr.mono (by decide)) tkF (ad_cons (vr 1) (ad_cons (vr 2) (ad_cons (vr 3) (ad_cons (vr 4) (ad_cons (vr 5) (ad_cons (vr 6) (ad_cons (vr 7) ad_nil)))))))))))) hk
abbrev P_Ring__with_hosts : List Str := ["self", "hosts"]
theorem sc_Ring__with_hosts : FnScope N_Ring__with_hosts P_Ring__with_hosts (defScope s_Ring__with_hosts) := ⟨rfl, rfl, rfl, by decide +kernel, rfl, by decide +kernel, by decide +kernel⟩
theorem ok_Ring__with_hosts {P_ : Program} {w : World} {K : PySem.W.Frag} {mg : Str → Option Value} {base : Heap} {C P f : Addr} {fd : FuncData} (T : Tx K mg C P) (F_Ring : Kok P_ w K mg base "Ring" C 6 8 (sd_Ring___init__ C))
    (F : FunD K "_with_hosts" "Ring._with_hosts" (defArgs s_Ring__with_hosts) (defBody s_Ring__with_hosts) (defScope s_Ring__with_hosts) [] [] f fd) (hk : Keeps N_Ring__with_hosts 2 (sd_Ring__with_hosts C) (db_Ring__with_hosts C)) : FnOk P_ w K mg base (L2.CX P_ w) 8 f fd P_Ring__with_hosts (spOf K 2 (sd_Ring__with_hosts C)) := 
  okD F sc_Ring__with_hosts rfl (fun cdv A fr s H E hr => (bd_cons (sd_set 2 sc_Ring__with_hosts.nd (pd_fld (vr 0) T.cRing (T.na "_read_number" (by decide))))
      (bd_one (sd_ret (pd_make F_Ring (hr.mono (by decide)) tkF (ad_cons (pd_fld (vr 0) T.cRing (T.na "_points" (by decide))) (ad_cons (pd_fld (vr 0) T.cRing (T.na "_factor" (by decide))) (ad_cons (pd_fld (vr 0) T.cRing (T.na "_spread" (by decide))) (ad_cons (pd_fld (vr 0) T.cRing (T.na "_write" (by decide))) (ad_cons (vr 2) (ad_cons (pd_fld (vr 0) T.cRing (T.na "_pending" (by decide))) (ad_cons (vr 1) ad_nil)))))))))))) hk
abbrev P_Ring_joined : List Str := ["self", "name", "rack", "marks"]
theorem sc_Ring_joined : FnScope N_Ring_joined P_Ring_joined (defScope s_Ring_joined) := ⟨rfl, rfl, rfl, by decide +kernel, rfl, by decide +kernel, by decide +kernel⟩
theorem ok_Ring_joined {P_ : Program} {w : World} {K : PySem.W.Frag} {mg : Str → Option Value} {base : Heap} {C P f : Addr} {fd : FuncData} (T : Tx K mg C P) (F_Ring__with_hosts : Mok P_ w K mg base C "_with_hosts" 8 2 (sd_Ring__with_hosts C)) (F_are_free_marks : Fok P_ w K mg base "are_free_marks" 3 3 (sd_are_free_marks C)) (F_is_free_name : Fok P_ w K mg base "is_free_name" 2 2 (sd_is_free_name C)) (F_is_name : Fok P_ w K mg base "is_name" 1 1 (sd_is_name C))
    (F : FunD K "joined" "Ring.joined" (defArgs s_Ring_joined) (defBody s_Ring_joined) (defScope s_Ring_joined) [] [] f fd) (hk : Keeps N_Ring_joined 4 (sd_Ring_joined C) (db_Ring_joined C)) : FnOk P_ w K mg base (L2.CX P_ w) 9 f fd P_Ring_joined (spOf K 4 (sd_Ring_joined C)) := 
  okD F sc_Ring_joined rfl (fun cdv A fr s H E hr => (bd_cons (sd_if (td_not (td_tru (pd_fn F_is_free_name (hr.mono (by decide)) tkF (ad_cons (vr 1) (ad_cons (pd_fld (vr 0) T.cRing (T.na "_hosts" (by decide))) ad_nil))))) (bd_one sd_never) bd_nil)
      (bd_cons (sd_if (td_not (td_tru (pd_fn F_is_name (hr.mono (by decide)) tkF (ad_cons (vr 2) ad_nil)))) (bd_one sd_never) bd_nil)
      (bd_cons (sd_if (td_not (td_tru (pd_fn F_are_free_marks (hr.mono (by decide)) tkF (ad_cons (vr 3) (ad_cons (pd_fld (vr 0) T.cRing (T.na "_points" (by decide))) (ad_cons (pd_fld (vr 0) T.cRing (T.na "_hosts" (by decide))) ad_nil)))))) (bd_one sd_never) bd_nil)
      (bd_cons (sd_if (td_cmp (opd_eq hr.units) (pd_callB (cd_len) (by rfl) T.len (by decide +kernel) (ad_cons (pd_fld (vr 0) T.cRing (T.na "_hosts" (by decide))) ad_nil)) (pd_cint T.c_MOST_HOSTS) (nomark _)) (bd_one sd_never) bd_nil)
      (bd_one (sd_ret (pd_meth F_Ring__with_hosts (hr.mono (by decide)) tkF (vr 0) (ad_cons (pd_op opd_add (pd_fld (vr 0) T.cRing (T.na "_hosts" (by decide))) (pd_tup (ad_cons (pd_tup (ad_cons (vr 1) (ad_cons (vr 2) (ad_cons (vr 3) ad_nil)))) ad_nil))) ad_nil))))))))) hk
abbrev P_Ring_left : List Str := ["self", "name"]
theorem sc_Ring_left : FnScope N_Ring_left P_Ring_left (defScope s_Ring_left) := ⟨rfl, rfl, rfl, by decide +kernel, rfl, by decide +kernel, by decide +kernel⟩
theorem ok_Ring_left {P_ : Program} {w : World} {K : PySem.W.Frag} {mg : Str → Option Value} {base : Heap} {C P f : Addr} {fd : FuncData} (T : Tx K mg C P) (F_Ring__with_hosts : Mok P_ w K mg base C "_with_hosts" 8 2 (sd_Ring__with_hosts C)) (F_check_name : Fok P_ w K mg base "check_name" 4 2 (sd_check_name C))
    (F : FunD K "left" "Ring.left" (defArgs s_Ring_left) (defBody s_Ring_left) (defScope s_Ring_left) [] [] f fd) (hk : Keeps N_Ring_left 2 (sd_Ring_left C) (db_Ring_left C)) : FnOk P_ w K mg base (L2.CX P_ w) 9 f fd P_Ring_left (spOf K 2 (sd_Ring_left C)) := 
  okD F sc_Ring_left rfl (fun cdv A fr s H E hr => (bd_cons (sd_expr (pd_fn F_check_name (hr.mono (by decide)) tkF (ad_cons (vr 0) (ad_cons (vr 1) ad_nil))))
      (bd_cons (sd_if (td_cmp (opd_eq hr.units) (pd_callB (cd_len) (by rfl) T.len (by decide +kernel) (ad_cons (pd_fld (vr 0) T.cRing (T.na "_hosts" (by decide))) ad_nil)) pd_int (nomark _)) (bd_one sd_never) bd_nil)
      (bd_one (sd_ret (pd_meth F_Ring__with_hosts (hr.mono (by decide)) tkF (vr 0) (ad_cons (pd_callTy (cd_tuple) (by rfl) T.tuple (by decide +kernel) (ad_cons (pd_lc (own := [("host", 2)]) rfl sc_Ring_left.nd (id_seq (pd_fld (vr 0) T.cRing (T.na "_hosts" (by decide)))) (blkOk_by (N := N_Ring_left) (sc := (defScope s_Ring_left)) (by decide +kernel)) (fun _ _ _ _ _ => (gw_name (i := 2) sc_Ring_left.nd)) (fun _ _ _ _ _ => (tsd_one (td_cmp (opd_ne hr.units) (pd_ix ixd (vr 2) pd_int (fun _ _ => rfl)) (vr 1) (nomark _)))) (fun _ _ _ _ _ => (vr 2))) ad_nil)) ad_nil))))))) hk
abbrev P_behind_join : List Str := ["state", "step"]
theorem sc_behind_join : FnScope N_behind_join P_behind_join (defScope s_behind_join) := ⟨rfl, rfl, rfl, by decide +kernel, rfl, by decide +kernel, by decide +kernel⟩
theorem ok_behind_join {P_ : Program} {w : World} {K : PySem.W.Frag} {mg : Str → Option Value} {base : Heap} {C P f : Addr} {fd : FuncData} (T : Tx K mg C P) (F_Ring_joined : Mok P_ w K mg base C "joined" 9 4 (sd_Ring_joined C))
    (F : FunD K "behind_join" "behind_join" (defArgs s_behind_join) (defBody s_behind_join) (defScope s_behind_join) [] [] f fd) (hk : Keeps N_behind_join 2 (sd_behind_join C) (db_behind_join C)) : FnOk P_ w K mg base (L2.CX P_ w) 10 f fd P_behind_join (spOf K 2 (sd_behind_join C)) := 
  okD F sc_behind_join rfl (fun cdv A fr s H E hr => (bd_cons (sd_asg (vr 0) (gd_tup (n := 3) rfl (gds_cons (gd_name (i := 2) sc_behind_join.nd) (gds_cons (gd_name (i := 3) sc_behind_join.nd) (gds_cons (gd_name (i := 4) sc_behind_join.nd) gds_nil)))))
      (bd_cons (sd_asg (vr 1) (gd_tup (n := 4) rfl (gds_cons (gd_name (i := 5) sc_behind_join.nd) (gds_cons (gd_name (i := 6) sc_behind_join.nd) (gds_cons (gd_name (i := 7) sc_behind_join.nd) (gds_cons (gd_name (i := 8) sc_behind_join.nd) gds_nil))))))
      (bd_cons (sd_if (td_notN (vr 3)) (bd_one (sd_ret pd_non)) bd_nil)
      (bd_one (sd_tryT (fun tk' => (bd_one (sd_ret (pd_tup (ad_cons (vr 2) (ad_cons (pd_meth F_Ring_joined (hr.mono (by decide)) tk' (vr 2) (ad_cons (vr 6) (ad_cons (vr 7) (ad_cons (vr 8) ad_nil)))) (ad_cons (vr 4) ad_nil))))))))))))) hk
abbrev P_behind_leave : List Str := ["state", "step"]
theorem sc_behind_leave : FnScope N_behind_leave P_behind_leave (defScope s_behind_leave) := ⟨rfl, rfl, rfl, by decide +kernel, rfl, by decide +kernel, by decide +kernel⟩
theorem ok_behind_leave {P_ : Program} {w : World} {K : PySem.W.Frag} {mg : Str → Option Value} {base : Heap} {C P f : Addr} {fd : FuncData} (T : Tx K mg C P) (F_Ring_left : Mok P_ w K mg base C "left" 9 2 (sd_Ring_left C))
    (F : FunD K "behind_leave" "behind_leave" (defArgs s_behind_leave) (defBody s_behind_leave) (defScope s_behind_leave) [] [] f fd) (hk : Keeps N_behind_leave 2 (sd_behind_leave C) (db_behind_leave C)) : FnOk P_ w K mg base (L2.CX P_ w) 10 f fd P_behind_leave (spOf K 2 (sd_behind_leave C)) := 
  okD F sc_behind_leave rfl (fun cdv A fr s H E hr => (bd_cons (sd_asg (vr 0) (gd_tup (n := 3) rfl (gds_cons (gd_name (i := 2) sc_behind_leave.nd) (gds_cons (gd_name (i := 3) sc_behind_leave.nd) (gds_cons (gd_name (i := 4) sc_behind_leave.nd) gds_nil)))))
      (bd_cons (sd_if (td_notN (vr 3)) (bd_one (sd_ret pd_non)) bd_nil)
      (bd_one (sd_tryT (fun tk' => (bd_one (sd_ret (pd_tup (ad_cons (vr 2) (ad_cons (pd_meth F_Ring_left (hr.mono (by decide)) tk' (vr 2) (ad_cons (pd_ix ixd (vr 1) pd_int (fun _ _ => rfl)) ad_nil)) (ad_cons (vr 4) ad_nil)))))))))))) hk
abbrev P_behind : List Str := ["state", "step"]
theorem sc_behind : FnScope N_behind P_behind (defScope s_behind) := ⟨rfl, rfl, rfl, by decide +kernel, rfl, by decide +kernel, by decide +kernel⟩
theorem ok_behind {P_ : Program} {w : World} {K : PySem.W.Frag} {mg : Str → Option Value} {base : Heap} {C P f : Addr} {fd : FuncData} (T : Tx K mg C P) (H_ACTIONS : Disp P_ w K mg base "ACTIONS" 10 2 [("join", sd_behind_join C), ("leave", sd_behind_leave C), ("copy", sd_behind_copy C), ("settle", sd_behind_settle C), ("down", sd_behind_down C), ("up", sd_behind_up C), ("wipe", sd_behind_wipe C), ("repair", sd_behind_repair C)]) (F_is_form_of : Fok P_ w K mg base "is_form_of" 1 2 (sd_is_form_of C))
    (F : FunD K "behind" "behind" (defArgs s_behind) (defBody s_behind) (defScope s_behind) [] [] f fd) (hk : Keeps N_behind 2 (sd_behind C) (db_behind C)) : FnOk P_ w K mg base (L2.CX P_ w) 11 f fd P_behind (spOf K 2 (sd_behind C)) := 
  okD F sc_behind rfl (fun cdv A fr s H E hr => (bd_cons (sd_if (td_not (td_tru (pd_fn F_is_form_of (hr.mono (by decide)) tkF (ad_cons (vr 1) (ad_cons (pd_cttup T.c_FORMS) ad_nil))))) (bd_one (sd_ret pd_non)) bd_nil)
      (bd_disp (i := 2) (n := 2) H_ACTIONS (hr.mono (by decide)) tkF sc_behind.nd (pd_ix ixd (vr 1) pd_int (fun _ _ => rfl)) (ad_cons (vr 0) (ad_cons (vr 1) ad_nil))))) hk
abbrev P_states_of : List Str := ["ring", "steps"]
theorem sc_states_of : FnScope N_states_of P_states_of (defScope s_states_of) := ⟨rfl, rfl, rfl, by decide +kernel, rfl, by decide +kernel, by decide +kernel⟩
theorem ok_states_of {P_ : Program} {w : World} {K : PySem.W.Frag} {mg : Str → Option Value} {base : Heap} {C P f : Addr} {fd : FuncData} (T : Tx K mg C P) (F_behind : Fok P_ w K mg base "behind" 11 2 (sd_behind C))
    (F : FunD K "states_of" "states_of" (defArgs s_states_of) (defBody s_states_of) (defScope s_states_of) [] [] f fd) (hk : Keeps N_states_of 2 (sd_states_of C) (db_states_of C)) : FnOk P_ w K mg base (L2.CX P_ w) 12 f fd P_states_of (spOf K 2 (sd_states_of C)) := 
  okD F sc_states_of rfl (fun cdv A fr s H E hr => (bd_cons (sd_if (td_not (td_tru (pd_isi (vr 1) T.isinstance T.tuple (by decide +kernel)))) (bd_one sd_never) bd_nil)
      (bd_cons (sd_set 2 sc_states_of.nd (pd_lstC (ad_cons (pd_tup (ad_cons (vr 0) (ad_cons pd_non (ad_cons (pd_tup ad_nil) ad_nil)))) ad_nil)))
      (bd_cons (sd_for poF rfl (id_enum (by rfl) T.enumerate (ad_cons (vr 1) ad_nil)) (gd_tup (n := 2) rfl (gds_cons (gd_name (i := 3) sc_states_of.nd) (gds_cons (gd_name (i := 4) sc_states_of.nd) gds_nil))) (bd_cons (sd_set 5 sc_states_of.nd (pd_fn F_behind (hr.mono (by decide)) tkF (ad_cons (pd_ix ixd (vr 2) (vr 3) (fun _ _ => rfl)) (ad_cons (vr 4) ad_nil))))
      (bd_cons (sd_if (td_w (wd_or (td_cmp (opd_eq hr.units) (vr 3) (pd_cint T.c_MOST_STEPS) (nomark _)) (wd_or1 (td_isN (vr 5))))) (bd_one sd_never) bd_nil)
      (bd_one (sd_expr (pd_app (vr 2) (ad_cons (vr 5) ad_nil)))))))
      (bd_one (sd_ret (pd_callTy (cd_tuple) (by rfl) T.tuple (by decide +kernel) (ad_cons (vr 2) ad_nil)))))))) hk
abbrev P_Plan___init__ : List Str := ["self", "ring", "steps"]
theorem sc_Plan___init__ : FnScope N_Plan___init__ P_Plan___init__ (defScope s_Plan___init__) := ⟨rfl, rfl, rfl, by decide +kernel, rfl, by decide +kernel, by decide +kernel⟩
theorem ok_Plan___init__ {P_ : Program} {w : World} {K : PySem.W.Frag} {mg : Str → Option Value} {base : Heap} {C P f : Addr} {fd : FuncData} (T : Tx K mg C P) (F_check_ring : Fok P_ w K mg base "check_ring" 1 1 (sd_check_ring C)) (F_states_of : Fok P_ w K mg base "states_of" 12 2 (sd_states_of C))
    {dvs : List V} (F : FunD K "__init__" "Plan.__init__" (defArgs s_Plan___init__) (defBody s_Plan___init__) (defScope s_Plan___init__) dvs [] f fd) (hk : Keeps N_Plan___init__ 3 (sd_Plan___init__ C P) (db_Plan___init__ C P)) : FnOk P_ w K mg base (L2.CX P_ w) 13 f fd P_Plan___init__ (spOf K 3 (sd_Plan___init__ C P)) := 
  okD F sc_Plan___init__ rfl (fun cdv A fr s H E hr => (bd_cons (sd_expr (pd_fn F_check_ring (hr.mono (by decide)) tkF (ad_cons (vr 1) ad_nil)))
      (bd_cons (sd_fset (vr 0) T.cPlan (T.naP "_states" (by decide)) (pd_fn F_states_of (hr.mono (by decide)) tkF (ad_cons (vr 1) (ad_cons (vr 2) ad_nil))))
      (bd_cons (sd_fset (vr 0) T.cPlan (T.naP "_ring" (by decide)) (vr 1))
      (bd_one (sd_fset (vr 0) T.cPlan (T.naP "_steps" (by decide)) (vr 2))))))) hk
abbrev P_right : List Str := ["_law_purse_here"]
theorem sc_right : FnScope N_right P_right (defScope s_right) := ⟨rfl, rfl, rfl, by decide +kernel, rfl, by decide +kernel, by decide +kernel⟩
theorem ok_right {P_ : Program} {w : World} {K : PySem.W.Frag} {mg : Str → Option Value} {base : Heap} {C P f : Addr} {fd : FuncData} (T : Tx K mg C P) (F_Plan : Kok P_ w K mg base "Plan" P 13 3 (sd_Plan___init__ C P)) (F_Plan_keepers : Mok P_ w K mg base P "keepers" 6 3 (sd_Plan_keepers C P)) (FP_Plan_keepers : MokP P_ w K mg base P "keepers" 6 3 ["moment", "point"] [1, 0] (sd_Plan_keepers C P)) (F_Plan_pendings : Mok P_ w K mg base P "pendings" 6 3 (sd_Plan_pendings C P)) (FP_Plan_pendings : MokP P_ w K mg base P "pendings" 6 3 ["moment", "point"] [1, 0] (sd_Plan_pendings C P)) (F_draw : Fok P_ w K mg base "_law_draw" 1 2 (sd_draw C)) (F_keepers : Fok P_ w K mg base "_law_keepers" 2 2 (sd_keepers C)) (F_mint : Fok P_ w K mg base "_law_made" 8 1 (sd_mint C)) (F_ring : Fok P_ w K mg base "_law_ring" 3 3 (sd_ring C)) (F_steps : Fok P_ w K mg base "_law_steps" 4 3 (sd_steps C))
    (F : FunD K "_law_right" "_law_right" (defArgs s_right) (defBody s_right) (defScope s_right) [] [] f fd) (hk : Keeps N_right 1 (sd_right C P) (db_right C P)) : FnG P_ w K mg base 15 f fd P_right (spOf K 1 (sd_right C P)) := 
  okG F sc_right rfl (fun cdv A fr s H E hr hg => (bd_cons (sd_set 1 sc_right.nd (pd_fn F_ring (hr.mono (by decide)) tkF (ad_cons (vr 0) (ad_cons (pd_op opd_add pd_int (pd_fn F_draw (hr.mono (by decide)) tkF (ad_cons (vr 0) (ad_cons pd_int ad_nil)))) (ad_cons pd_int ad_nil)))))
      (bd_cons (sd_asg (pd_fn F_steps (hr.mono (by decide)) tkF (ad_cons (vr 0) (ad_cons (vr 1) (ad_cons pd_int ad_nil)))) (gd_tup (n := 2) rfl (gds_cons (gd_name (i := 2) sc_right.nd) (gds_cons (gd_name (i := 3) sc_right.nd) gds_nil))))
      (bd_cons (sd_set 4 sc_right.nd (pd_make F_Plan (hr.mono (by decide)) tkF (ad_cons (pd_fn F_mint (hr.mono (by decide)) tkF (ad_cons (vr 1) ad_nil)) (ad_cons (pd_callTy (cd_tuple) (by rfl) T.tuple (by decide +kernel) (ad_cons (vr 2) ad_nil)) ad_nil))))
      (bd_cons (sd_for poF rfl (id_rng1 (by rfl) T.range (ad_cons (pd_callB (cd_len) (by rfl) T.len (by decide +kernel) (ad_cons (vr 3) ad_nil)) ad_nil)) (gd_name (i := 5) sc_right.nd) (bd_cons (sd_asg (pd_ix ixd (vr 3) (vr 5) (fun _ _ => rfl)) (gd_lst (n := 3) rfl (gds_cons (gd_name (i := 6) sc_right.nd) (gds_cons (gd_name (i := 7) sc_right.nd) (gds_cons (gd_name (i := 8) sc_right.nd) gds_nil)))))
      (bd_one (sd_for poF rfl (id_rng1 (by rfl) T.range (ad_cons (pd_ix ixd (vr 1) pd_int (fun _ _ => rfl)) ad_nil)) (gd_name (i := 9) sc_right.nd) (bd_cons (sd_asg (pd_tup (ad_cons (pd_fn F_keepers (hr.mono (by decide)) tkF (ad_cons (vr 6) (ad_cons (vr 9) ad_nil))) (ad_cons (pd_tup ad_nil) ad_nil))) (gd_tup (n := 2) rfl (gds_cons (gd_name (i := 10) sc_right.nd) (gds_cons (gd_name (i := 11) sc_right.nd) gds_nil))))
      (bd_cons (sd_if (td_notN (vr 7)) (bd_one (sd_set 11 sc_right.nd (pd_callTy (cd_tuple) (by rfl) T.tuple (by decide +kernel) (ad_cons (pd_lc (own := [("_law_host", 14)]) rfl sc_right.nd (id_seq (pd_fn F_keepers (hr.mono (by decide)) tkF (ad_cons (vr 7) (ad_cons (vr 9) ad_nil)))) (blkOk_by (N := N_right) (sc := (defScope s_right)) (by decide +kernel)) (fun _ _ _ _ _ => (gw_name (i := 14) sc_right.nd)) (fun _ _ _ _ _ => (tsd_one (td_cmp opd_ni (vr 14) (vr 10) (by rfl)))) (fun _ _ _ _ _ => (vr 14))) ad_nil)))) bd_nil)
      (bd_cons (sd_set 12 sc_right.nd (pd_lst (ad_cons (pd_meth F_Plan_keepers (hr.mono (by decide)) tkF (vr 4) (ad_cons (vr 9) (ad_cons (vr 5) ad_nil))) (ad_cons (pd_meth F_Plan_pendings (hr.mono (by decide)) tkF (vr 4) (ad_cons (vr 9) (ad_cons (vr 5) ad_nil))) ad_nil))))
      (bd_cons (sd_set 13 sc_right.nd (pd_lst (ad_cons (pd_methP (ks := ["moment", "point"]) (pm := [1, 0]) FP_Plan_keepers (hr.mono (by decide)) tkF (vr 4) (kd_cons (vr 5) (kd_cons (vr 9) kd_nil))) (ad_cons (pd_methP (ks := ["moment", "point"]) (pm := [1, 0]) FP_Plan_pendings (hr.mono (by decide)) tkF (vr 4) (kd_cons (vr 5) (kd_cons (vr 9) kd_nil))) ad_nil))))
      (bd_one (sd_if (td_w (wd_or (td_cmp (opd_ne hr.units) (pd_callB (cd_repr1 hg (hu2_of hr)) (by rfl) T.repr (by decide +kernel) (ad_cons (pd_lst (ad_cons (vr 12) (ad_cons (vr 13) ad_nil))) ad_nil)) (pd_callB (cd_repr1 hg (hu2_of hr)) (by rfl) T.repr (by decide +kernel) (ad_cons (pd_lst (ad_cons (pd_lst (ad_cons (vr 10) (ad_cons (vr 11) ad_nil))) (ad_cons (pd_lst (ad_cons (vr 10) (ad_cons (vr 11) ad_nil))) ad_nil))) ad_nil)) (nomark _)) (wd_or1 (td_cmp opd_gt (pd_callB (cd_len) (by rfl) T.len (by decide +kernel) (ad_cons (vr 11) ad_nil)) pd_int (nomark _))))) (bd_one (sd_ret pd_bl)) bd_nil))))))))))
      (bd_one (sd_ret pd_bl))))))) hk
abbrev P_law : List Str := ["_law_script"]
theorem sc_law : FnScope N_law P_law (defScope s_law) := ⟨rfl, rfl, rfl, by decide +kernel, rfl, by decide +kernel, by decide +kernel⟩
theorem ok_law {P_ : Program} {w : World} {K : PySem.W.Frag} {mg : Str → Option Value} {base : Heap} {C P f : Addr} {fd : FuncData} (T : Tx K mg C P) (F_purse : Fok P_ w K mg base "_law_purse" 1 2 (sd_purse C)) (F_right : Fgd P_ w K mg base "_law_right" 15 1 (sd_right C P))
    (F : FunD K "law" "law" (defArgs s_law) (defBody s_law) (defScope s_law) [] [] f fd) (hk : Keeps N_law 1 (sd_law C P) (db_law C P)) : FnG P_ w K mg base 16 f fd P_law (spOf K 1 (sd_law C P)) := 
  okG F sc_law rfl (fun cdv A fr s H E hr hg => (bd_cons (sd_for poF rfl (id_rng1 (by rfl) T.range (ad_cons (pd_callB (cd_max2 rfl) (by rfl) T.max (by decide +kernel) (ad_cons pd_int (ad_cons (pd_callB (cd_min2 rfl) (by rfl) T.min (by decide +kernel) (ad_cons (pd_callB (cd_len) (by rfl) T.len (by decide +kernel) (ad_cons (vr 0) ad_nil)) (ad_cons pd_int ad_nil))) ad_nil))) ad_nil)) (gd_name (i := 1) sc_law.nd) (bd_one (sd_if (td_not (td_tru (pd_fg F_right (hr.mono (by decide)) hg tkF (ad_cons (pd_fn F_purse (hr.mono (by decide)) tkF (ad_cons (vr 0) (ad_cons (vr 1) ad_nil))) ad_nil)))) (bd_one (sd_ret pd_bl)) bd_nil)))
      (bd_one (sd_ret pd_bl)))) hk
end L31
namespace DLH
open PySem PySem.W PySem.Calls PyProof.Rows He He5
theorem isB_ok {K : Frag} {x : PySem.Str} (cl : L2.Cls K (ga K x)) (h : isB K x = true) : DL.OwnI K (ga K x) := by
  obtain ⟨h1, h⟩ := ba h
  obtain ⟨h2, h⟩ := ba h
  obtain ⟨h3, h⟩ := ba h
  obtain ⟨h4, h5⟩ := ba h
  exact ⟨cl, eqO_ok h1, eqO_ok h2, of_decide_eq_true h3, of_decide_eq_true h4, fun t ht => of_decide_eq_true (List.all_eq_true.mp h5 t ht)⟩
end DLH
set_option maxRecDepth 100000
set_option maxHeartbeats 1000000
namespace L31
open PySem PySem.Spec PyProof.Rows L2 DL R
local macro_rules | `(tactic| bv_omega) => `(tactic| first | assumption | exact mset_same)
local macro_rules | `(tactic| symm) => `(tactic| first
  | ((with_reducible show ∃ _, _ = _ ∧ _); refine ⟨_, rfl, ?_⟩)
  | ((with_reducible show _ = _ ∧ _); refine ⟨rfl, ?_⟩)
  | ((with_reducible show ∃ _ _, _ = _ ∧ _ = _ ∧ _); refine ⟨_, _, rfl, rfl, ?_⟩)
  | ((with_reducible show ∃ _ _, _ = _ ∧ _); refine ⟨_, _, rfl, ?_⟩)
  | ((with_reducible show ∃ _ _ _, _ = _ ∧ _); refine ⟨_, _, _, rfl, ?_⟩)
  | ((with_reducible show (_ ≤ _ ∧ _) ∧ _); refine ⟨by omega, ?_⟩)
  | with_reducible refine add_int ?_ | with_reducible refine sub_int ?_
  | with_reducible refine lt_int ?_ | with_reducible refine le_int ?_ | with_reducible refine gt_int ?_ | with_reducible refine ge_int ?_
  | with_reducible refine int_int ?_
  | with_reducible refine eq_int ?_ | with_reducible refine ne_int ?_
  | with_reducible refine len_tup ?_ | with_reducible refine len_lst ?_
  | ((with_reducible show rdIx (.cel _) (.int _) _ _); refine ix_cel (by bv_omega) (by rfl) ?_)
  | ((with_reducible show rdIx (.lst _) (.int _) _ _); refine ix_lst (by rfl) ?_)
  | ((with_reducible show rdIx (.tup _) (.int _) _ _); refine ix_tup (by rfl) ?_)
  | ((with_reducible show rdLen [.cel _] _ _); refine len_cel (by bv_omega) ?_)
  | ((with_reducible show rdMul (.int _) (.int _) _ _); first | refine mul_l (by decide) (by decide) ?_ | refine mul_r (by decide) (by decide) ?_ | refine mul_l (by omega) (by omega) ?_ | refine mul_r (by omega) (by omega) ?_)
  | ((with_reducible show rdDiv (.int _) (.int _) _ _); refine div_int (by first | decide | assumption | omega) (by first | decide | assumption | omega) ?_)
  | ((with_reducible show rdDivmod [.int _, .int _] _ _); refine dm_int (by first | decide | assumption | omega) (by first | decide | assumption | omega) ?_)
  | ((with_reducible show @ite _ (_ = true) _ _ _); first | refine ifYes (by first | with_reducible rfl | exact Bool.not_false | assumption) ?_ | refine ifNo (by first | with_reducible rfl | exact Bool.not_true | assumption) ?_)
  | ((with_reducible show ∃ _, _ ∧ _); refine ⟨_, celL_of (by bv_omega), ?_⟩)
  | ((with_reducible show ∃ _ _ _ _, _ ∧ _ ∧ _ ∧ _ ∧ _); refine ⟨_, _, _, _, rfl, rfl, by bv_omega, by rfl, ?_⟩)
  | ((with_reducible show (_ : Nat) ≤ sizeLine ∧ _); refine ⟨by rw [sizeLine_eq]; exact Nat.le_of_ble_eq_true rfl, ?_⟩))
local macro_rules | `(tactic| infer_instance) => `(tactic| ((repeat symm); try dsimp only))
local macro_rules | `(tactic| ac_rfl) => `(tactic| ((repeat (first | symm | ((with_reducible show rdMod (.int _) (.int _) _ _); refine mod_any (by first | decide | assumption | omega) ?_; intro _ _ _))); try dsimp only))
theorem kp_marks (C : Addr) : Keeps N_marks 4 (sd_marks C) (db_marks C) := R.kp_marks C
theorem kp_ring (C : Addr) : Keeps N_ring 3 (sd_ring C) (db_ring C) := R.kp_ring C
theorem kp_names (C : Addr) : Keeps N_names 1 (sd_names C) (db_names C) := by
  rintro ds M q ex hl ⟨size, r, o, rfl, hf, h⟩
  show db_names C _ [some (optL size r o), none] M
  unfold db_names
  cases o with
  | none =>
    show dRet _ _ [some .non, none] M
    infer_instance
    exact h
  | some hs =>
    show dRet _ _ [some (.lst (frameL size r hs)), none] M
    infer_instance
    intro c hcn
    refine lc_all hostD (fun o => .str o.name) hcn (by rw [sizeLine_eq]; have := hf hs rfl; omega) (fun _ => rfl) (fun o ho acc hz nx h1 => ?_) ?_
    · infer_instance
      exact acc_put hz h1
    · infer_instance
      rw [show hs.map (fun o => D.str o.name) = (hs.map (·.name)).map D.str by rw [List.map_map]; rfl]
      exact h
theorem kp_is_form_of (C : Addr) : Keeps N_is_form_of 2 (sd_is_form_of C) (db_is_form_of C) := by
  rintro ds M q ex hl ⟨w, rfl, h⟩
  show db_is_form_of C _ [some (deedD w), some (.tup [.tup [.str "join", .int 4], .tup [.str "leave", .int 2], .tup [.str "copy", .int 3], .tup [.str "settle", .int 1], .tup [.str "down", .int 2], .tup [.str "up", .int 2], .tup [.str "wipe", .int 2], .tup [.str "repair", .int 3]])] M
  unfold db_is_form_of
  cases w with
  | join x b ms =>
    rw [show deedD (.join x b ms) = .tup [.str "join", .str x, .str b, intsT ms] from rfl]
    infer_instance
    exact ⟨.tuple [.str "join", .int 4], formsP, rfl, rfl, by decide +kernel, by decide +kernel, h⟩
  | leave x =>
    rw [show deedD (.leave x) = .tup [.str "leave", .str x] from rfl]
    infer_instance
    exact ⟨.tuple [.str "leave", .int 2], formsP, rfl, rfl, by decide +kernel, by decide +kernel, h⟩
  | copy t g =>
    rw [show deedD (.copy t g) = .tup [.str "copy", .str t, .str g] from rfl]
    infer_instance
    exact ⟨.tuple [.str "copy", .int 3], formsP, rfl, rfl, by decide +kernel, by decide +kernel, h⟩
  | settle =>
    rw [show deedD .settle = .tup [.str "settle"] from rfl]
    infer_instance
    exact ⟨.tuple [.str "settle", .int 1], formsP, rfl, rfl, by decide +kernel, by decide +kernel, h⟩
  | down x =>
    rw [show deedD (.down x) = .tup [.str "down", .str x] from rfl]
    infer_instance
    exact ⟨.tuple [.str "down", .int 2], formsP, rfl, rfl, by decide +kernel, by decide +kernel, h⟩
  | up x =>
    rw [show deedD (.up x) = .tup [.str "up", .str x] from rfl]
    infer_instance
    exact ⟨.tuple [.str "up", .int 2], formsP, rfl, rfl, by decide +kernel, by decide +kernel, h⟩
  | wipe x =>
    rw [show deedD (.wipe x) = .tup [.str "wipe", .str x] from rfl]
    infer_instance
    exact ⟨.tuple [.str "wipe", .int 2], formsP, rfl, rfl, by decide +kernel, by decide +kernel, h⟩
  | repair t g =>
    rw [show deedD (.repair t g) = .tup [.str "repair", .str t, .str g] from rfl]
    infer_instance
    exact ⟨.tuple [.str "repair", .int 3], formsP, rfl, rfl, by decide +kernel, by decide +kernel, h⟩
theorem crew_marks_len {size : Int} {hs : List Host} (hc : CrewOk size hs) : (hs.flatMap (·.marks)).length ≤ 192 := by
  have h3 := sum_le (l := hs) (f := fun o : Host => o.marks.length) (b := 16) fun o ho => (crew_marks hc o ho).few
  rw [List.length_flatMap]
  have h4 : hs.length * 16 ≤ 12 * 16 := Nat.mul_le_mul_right _ hc.few
  omega
theorem ne_nilT {d : D} {p : List PyData} {M : Mem} {q : QD} (e : pyOf M d = some (.tuple p)) (hs : SeqAt.shaped (.tuple p) = true) (w : q (.bl (!p.isEmpty)) M) : rdNe d (.tup []) M q := by
  refine .inl ⟨.tuple p, .tuple [], e, rfl, hs, by decide +kernel, ?_⟩
  have : PyData.eqv (.tuple p) (.tuple []) = p.isEmpty := by
    cases p <;> simp [PyData.eqv, PyData.eqvAll]
  rw [this]; exact w
theorem sh_some {size : Int} {hs : List Host} (hT : ∀ h ∈ hs, HostT size h) : SeqAt.shaped (crewPy hs) = true := by
  obtain ⟨h1, h2⟩ := lay_crew (hs := hs) fun o ho => ⟨(hT o ho).name, (hT o ho).rack⟩
  unfold SeqAt.shaped crewPy
  rw [Bool.and_eq_true]
  exact ⟨by simp [PyData.canLay0, h1], decide_eq_true (by simp only [PyData.depth]; omega)⟩
theorem any_free {hs : List Host} {ms : List Int} : ((ms.filter fun m => decide (m ∈ hs.flatMap (·.marks))).map PyData.int).isEmpty = ms.all fun m => !decide (m ∈ hs.flatMap (·.marks)) := by
  generalize hs.flatMap (·.marks) = ts
  induction ms with
  | nil => rfl
  | cons m l ih =>
    rw [List.filter_cons, List.all_cons]
    by_cases e : m ∈ ts
    · rw [decide_eq_true e]; rfl
    · rw [decide_eq_false e, if_neg (by simp)]; exact ih
theorem kp_changed (C : Addr) : Keeps N_changed 2 (sd_changed C) (db_changed C) := by
  rintro ds M q ex hl ⟨size, r, hs, d, rfl, hc, hd, hk, h⟩
  have hfew := hc.few
  have hml := crew_marks_len hc
  have hnl : (nms hs).length = hs.length := List.length_map _
  rcases hk with ⟨x, b, ms, rfl⟩ | ⟨x, rfl⟩
  · show db_changed C _ [some (.lst (frameL size r hs)), some (.tup [.str "join", .str x, .str b, intsT ms]), none, none, none, none, none, none] M
    unfold db_changed
    infer_instance
    refine ⟨size, r, some hs, rfl, fun a e => by cases e; exact hfew, ?_⟩
    infer_instance
    refine ⟨hs, rfl, by omega, fun o ho => (crew_marks hc o ho).few, ?_⟩
    infer_instance
    refine eq_strA ?_
    infer_instance
    intro c hcn
    refine lc_map D.int (fun m => decide (m ∈ hs.flatMap (·.marks))) D.int hcn (by rw [sizeLine_eq]; have := hd.2.2.few; omega) (fun _ => rfl) (fun m hm acc hz nx h1 h2 => ?_) ?_
    · infer_instance
      refine in_int rfl ?_
      infer_instance
      refine ifD (fun e => ?_) (fun e => ?_)
      · infer_instance
        exact acc_put hz (h1 (decide_eq_true e))
      · exact h2 (decide_eq_false e)
    · infer_instance
      refine in_str rfl ?_
      infer_instance
      have hno : (decide (x ∈ nms hs) || (decide (hs.length = 12) || !(ms.all fun m => !decide (m ∈ hs.flatMap (·.marks))))) = true → q .non M := fun e => by
        have : changed hs (.join x b ms) = none := if_pos e
        rw [this] at h
        exact h
      refine ifD (fun e => ?_) (fun e => ?_)
      · infer_instance
        exact hno (by rw [show decide (x ∈ nms hs) = true from decide_eq_true e]; rfl)
      infer_instance
      rw [List.length_map]
      refine ifD (fun e2 => ?_) (fun e2 => ?_)
      · infer_instance
        exact hno (by rw [show decide (hs.length = 12) = true from decide_eq_true (by have : ((nms hs).length : Int) = 12 := e2; omega), Bool.true_or, Bool.or_true])
      infer_instance
      refine ne_nil py_intL (shInts _) ?_
      rw [any_free]
      infer_instance
      refine ifB (fun e3 => ?_) (fun e3 => ?_)
      · infer_instance
        exact hno (by rw [e3, Bool.or_true, Bool.or_true])
      infer_instance
      have hyes : changed hs (.join x b ms) = some (hs ++ [⟨x, b, ms⟩]) := if_neg (by
        rw [show decide (x ∈ nms hs) = false from decide_eq_false e, show decide (hs.length = 12) = false from decide_eq_false (fun z => e2 (by show ((nms hs).length : Int) = 12; omega)), e3]
        simp)
      rw [hyes] at h
      refine sl_lst (n := 6) ?_
      infer_instance
      refine slf_tup (n := 1) ?_
      infer_instance
      refine ⟨_, _, rfl, rfl, ?_⟩
      infer_instance
      refine add_tup (by rw [List.length_map, sizeLine_eq]; simp only [List.length_cons, List.length_nil]; omega) ?_
      infer_instance
      refine add_lst rfl rfl (by rw [sizeLine_eq]; simp only [List.length_cons, List.length_nil, List.length_take]; omega) ?_
      have : D.tup (hs.map hostD ++ [hostD ⟨x, b, ms⟩]) = crewD (hs ++ [⟨x, b, ms⟩]) := by unfold crewD; rw [List.map_append]; rfl
      show q (.lst ((frameL size r hs).take 6 ++ [D.tup (hs.map hostD ++ [hostD ⟨x, b, ms⟩])])) M
      rw [this]
      exact h
  · show db_changed C _ [some (.lst (frameL size r hs)), some (.tup [.str "leave", .str x]), none, none, none, none, none, none] M
    unfold db_changed
    infer_instance
    refine ⟨size, r, some hs, rfl, fun a e => by cases e; exact hfew, ?_⟩
    infer_instance
    refine ⟨hs, rfl, by omega, fun o ho => (crew_marks hc o ho).few, ?_⟩
    infer_instance
    refine eq_strA ?_
    infer_instance
    intro c hcn
    refine lc_map hostD (fun o => !decide (o.name = x)) hostD hcn (by rw [sizeLine_eq]; omega) (fun _ => rfl) (fun o ho acc hz nx h1 h2 => ?_) ?_
    · infer_instance
      refine ne_strA ?_
      infer_instance
      refine ifB (fun e => ?_) (fun e => ?_)
      · infer_instance
        exact acc_put hz (h1 e)
      · exact h2 e
    · infer_instance
      refine ⟨_, _, rfl, rfl, ?_⟩
      infer_instance
      refine in_str rfl ?_
      infer_instance
      have hsub : ∀ o ∈ hs.filter (fun o => !decide (o.name = x)), HostT size o := fun o ho => crew_hostT hc (List.mem_filter.mp ho).1
      refine ifD (fun e => ?_) (fun e => ?_)
      · infer_instance
        refine ne_nilT (py_crew _ _) (sh_some hsub) ?_
        have hl2 := left_len hc e
        have hem : (!((hs.filter fun o => !decide (o.name = x)).map hostPy).isEmpty) = decide (2 ≤ hs.length) := by
          cases e2 : hs.filter fun o => !decide (o.name = x) with
          | nil => rw [e2] at hl2; rw [decide_eq_false (by simp at hl2; omega)]; rfl
          | cons a l => rw [e2] at hl2; rw [decide_eq_true (by simp at hl2; omega)]; rfl
        rw [hem]
        infer_instance
        refine ifB (fun e2 => ?_) (fun e2 => ?_)
        · infer_instance
          refine sl_lst (n := 6) ?_
          infer_instance
          refine add_lst rfl rfl (by rw [sizeLine_eq]; simp only [List.length_cons, List.length_nil, List.length_take]; omega) ?_
          have : changed hs (.leave x) = some (hs.filter fun h => !decide (h.name = x)) := if_pos (by rw [e2, show decide (x ∈ nms hs) = true from decide_eq_true e]; rfl)
          rw [this] at h
          exact h
        · infer_instance
          have : changed hs (.leave x) = none := if_neg (by rw [e2, Bool.and_false]; exact Bool.false_ne_true)
          rw [this] at h
          exact h
      · infer_instance
        have : changed hs (.leave x) = none := if_neg (by rw [show decide (x ∈ nms hs) = false from decide_eq_false e, Bool.false_and]; exact Bool.false_ne_true)
        rw [this] at h
        exact h
end L31
set_option maxRecDepth 100000
set_option maxHeartbeats 1000000
namespace L31
open PySem PySem.Spec PyProof.Rows L2 DL R
local macro_rules | `(tactic| bv_omega) => `(tactic| first | assumption | exact mset_same)
local macro_rules | `(tactic| symm) => `(tactic| first
  | ((with_reducible show ∃ _, _ = _ ∧ _); refine ⟨_, rfl, ?_⟩)
  | ((with_reducible show _ = _ ∧ _); refine ⟨rfl, ?_⟩)
  | ((with_reducible show ∃ _ _, _ = _ ∧ _ = _ ∧ _); refine ⟨_, _, rfl, rfl, ?_⟩)
  | ((with_reducible show ∃ _ _, _ = _ ∧ _); refine ⟨_, _, rfl, ?_⟩)
  | ((with_reducible show ∃ _ _ _, _ = _ ∧ _); refine ⟨_, _, _, rfl, ?_⟩)
  | ((with_reducible show (_ ≤ _ ∧ _) ∧ _); refine ⟨by omega, ?_⟩)
  | with_reducible refine add_int ?_ | with_reducible refine sub_int ?_
  | with_reducible refine lt_int ?_ | with_reducible refine le_int ?_ | with_reducible refine gt_int ?_ | with_reducible refine ge_int ?_
  | with_reducible refine int_int ?_
  | with_reducible refine eq_int ?_ | with_reducible refine ne_int ?_
  | with_reducible refine len_tup ?_ | with_reducible refine len_lst ?_
  | ((with_reducible show rdIx (.cel _) (.int _) _ _); refine ix_cel (by bv_omega) (by rfl) ?_)
  | ((with_reducible show rdIx (.lst _) (.int _) _ _); refine ix_lst (by rfl) ?_)
  | ((with_reducible show rdIx (.tup _) (.int _) _ _); refine ix_tup (by rfl) ?_)
  | ((with_reducible show rdLen [.cel _] _ _); refine len_cel (by bv_omega) ?_)
  | ((with_reducible show rdMul (.int _) (.int _) _ _); first | refine mul_l (by decide) (by decide) ?_ | refine mul_r (by decide) (by decide) ?_ | refine mul_l (by omega) (by omega) ?_ | refine mul_r (by omega) (by omega) ?_)
  | ((with_reducible show rdDiv (.int _) (.int _) _ _); refine div_int (by first | decide | assumption | omega) (by first | decide | assumption | omega) ?_)
  | ((with_reducible show rdDivmod [.int _, .int _] _ _); refine dm_int (by first | decide | assumption | omega) (by first | decide | assumption | omega) ?_)
  | ((with_reducible show @ite _ (_ = true) _ _ _); first | refine ifYes (by first | with_reducible rfl | exact Bool.not_false | assumption) ?_ | refine ifNo (by first | with_reducible rfl | exact Bool.not_true | assumption) ?_)
  | ((with_reducible show ∃ _, _ ∧ _); refine ⟨_, celL_of (by bv_omega), ?_⟩)
  | ((with_reducible show ∃ _ _ _ _, _ ∧ _ ∧ _ ∧ _ ∧ _); refine ⟨_, _, _, _, rfl, rfl, by bv_omega, by rfl, ?_⟩)
  | ((with_reducible show (_ : Nat) ≤ sizeLine ∧ _); refine ⟨by rw [sizeLine_eq]; exact Nat.le_of_ble_eq_true rfl, ?_⟩))
local macro_rules | `(tactic| infer_instance) => `(tactic| ((repeat symm); try dsimp only))
local macro_rules | `(tactic| ac_rfl) => `(tactic| ((repeat (first | symm | ((with_reducible show rdMod (.int _) (.int _) _ _); refine mod_any (by first | decide | assumption | omega) ?_; intro _ _ _))); try dsimp only))
theorem sortS_ok (l : List Str) : (sortS l).Perm l ∧ PyProof.Rows.sortedS (sortS l) = true := Classical.choose_spec (sort_ex l)
theorem sortS_of {l ys : List Str} (hp : ys.Perm l) (hs : PyProof.Rows.sortedS ys = true) : ys = sortS l := sortedS_uniq (hp.trans (sortS_ok l).1.symm) hs (sortS_ok l).2
theorem filt_out {l : List Str} {x : Str} (h : x ∉ l) : (l.filter fun y => !decide (y = x)) = l := List.filter_eq_self.mpr fun y hy => by
  rw [decide_eq_false (fun e : y = x => h (by rw [← e]; exact hy))]; rfl
theorem onms_len {size : Int} {s : St} {n : Nat} (hs : StOk size n s) : ∀ a, s.aft = some a → a.length ≤ 12 := fun a e => (hs.a a e).1.few
theorem onms_le {size : Int} {s : St} {n : Nat} (hs : StOk size n s) : (onms s.aft).length ≤ 12 := by
  cases e : s.aft with
  | none => exact Nat.zero_le _
  | some a => show (a.map _).length ≤ 12; rw [List.length_map]; exact onms_len hs a e
theorem isN_optL {size : Int} {r : Rule} {o : Option (List Host)} : DL.isNon (optL size r o) = decide (o = none) := by
  cases o <;> rfl
/-- the filter of those that are down -/
theorem lc_dn {env : EnvD} {q : QD} {c : Addr} {M : Mem} {ok : Mem → Prop} {g : GD} {t : DT} {de : DE} (dn : List Str) (p : Str → Bool) (hc : M c = none) (hn : dn.length ≤ 64) (hok : ∀ acc, ok (mset M c (.ls acc)))
    (hs : ∀ x, x ∈ dn → ∀ (acc : List D), acc.length < sizeLine → ∀ nx : Mem → Prop, (p x = true → nx (mset M c (.ls (acc ++ [.str x])))) → (p x = false → nx (mset M c (.ls acc))) →
      g (.str x) env (mset M c (.ls acc)) (fun env' M' => t env' M' (fun b M2 => if b = true then de env' M2 (fun y M3 => ∃ ys, M3 c = some (.ls ys) ∧ ys.length < sizeLine ∧ nx (mset M3 c (.ls (ys ++ [y])))) noX else nx M2) noX) (fun _ => noX))
    (hq : q (strsL (dn.filter p)) M) : lcW ok g t de env q c (dn.map D.str) (mset M c (.ls [])) :=
  lc_map D.str p D.str hc (by rw [sizeLine_eq]; omega) hok hs hq
theorem kp_later (C : Addr) : Keeps N_later 2 (sd_later C) (db_later C) := by
  rintro ds M q ex hl ⟨size, r, s, d, rfl, hs, hd, h⟩
  have hfew := hs.c.few
  have hdn := hs.d
  have hal := onms_len hs
  have hon := onms_le hs
  have hnl : (nms s.now).length = s.now.length := List.length_map _
  have hnow : ∀ a, some s.now = some a → a.length ≤ 12 := fun a e => by cases e; exact hfew
  show db_later C _ [some (standD size r s), some (deedD d), none, none, none, none, none, none, none, none, none] M
  unfold db_later standD
  cases d with
  | join x b ms =>
    rw [show deedD (.join x b ms) = .tup [.str "join", .str x, .str b, intsT ms] from rfl]
    infer_instance
    refine DL.in_str (xs := ["join", "leave"]) rfl ?_
    rw [show decide ((("join" : Str)) ∈ (["join", "leave"] : List Str)) = true from by decide]
    infer_instance
    rw [isN_optL]
    refine ifD (fun e => ?_) (fun e => ?_)
    · infer_instance
      refine ⟨size, r, s.now, .join x b ms, rfl, hs.c, hd, .inl ⟨x, b, ms, rfl⟩, ?_⟩
      infer_instance
      have h' := h M (Kept.refl M)
      rw [show later s (.join x b ms) = (changed s.now (.join x b ms)).map fun a => ⟨s.now, some a, s.dn⟩ from if_pos e] at h'
      generalize changed s.now (.join x b ms) = o at h' ⊢
      cases o with
      | none =>
        rw [show DL.isNon (optL size r none) = true from rfl]
        infer_instance
        exact h'
      | some a =>
        rw [show DL.isNon (optL size r (some a)) = false from rfl]
        infer_instance
        exact h'
    · have h' := h M (Kept.refl M)
      rw [show later s (.join x b ms) = none from if_neg e] at h'
      infer_instance
      exact h'
  | leave x =>
    rw [show deedD (.leave x) = .tup [.str "leave", .str x] from rfl]
    infer_instance
    refine DL.in_str (xs := ["join", "leave"]) rfl ?_
    rw [show decide ((("leave" : Str)) ∈ (["join", "leave"] : List Str)) = true from by decide]
    infer_instance
    rw [isN_optL]
    refine ifD (fun e => ?_) (fun e => ?_)
    · infer_instance
      refine ⟨size, r, s.now, .leave x, rfl, hs.c, hd, .inr ⟨x, rfl⟩, ?_⟩
      infer_instance
      have h' := h M (Kept.refl M)
      rw [show later s (.leave x) = (changed s.now (.leave x)).map fun a => ⟨s.now, some a, s.dn⟩ from if_pos e] at h'
      generalize changed s.now (.leave x) = o at h' ⊢
      cases o with
      | none =>
        rw [show DL.isNon (optL size r none) = true from rfl]
        infer_instance
        exact h'
      | some a =>
        rw [show DL.isNon (optL size r (some a)) = false from rfl]
        infer_instance
        exact h'
    · have h' := h M (Kept.refl M)
      rw [show later s (.leave x) = none from if_neg e] at h'
      infer_instance
      exact h'
  | settle =>
    rw [show deedD .settle = .tup [.str "settle"] from rfl]
    infer_instance
    refine DL.in_str (xs := ["join", "leave"]) rfl ?_
    rw [show decide ((("settle" : Str)) ∈ (["join", "leave"] : List Str)) = false from by decide]
    infer_instance
    refine eq_strA ?_
    infer_instance
    refine ⟨size, r, s.aft, rfl, hal, ?_⟩
    infer_instance
    intro c hcn
    refine lc_dn s.dn (fun x => decide (x ∈ onms s.aft)) hcn (by omega) (fun _ => rfl) (fun x hx acc hz nx h1 h2 => ?_) ?_
    · infer_instance
      refine DL.in_str rfl ?_
      infer_instance
      refine ifD (fun e => ?_) (fun e => ?_)
      · infer_instance
        exact acc_put hz (h1 (decide_eq_true e))
      · exact h2 (decide_eq_false e)
    · infer_instance
      have h' := h M (Kept.refl M)
      cases ea : s.aft with
      | none =>
        rw [show later s .settle = none from by unfold later; rw [ea]; rfl] at h'
        rw [show DL.isNon (optL size r none) = true from rfl]
        infer_instance
        exact h'
      | some a =>
        rw [show later s .settle = some ⟨a, none, s.dn.filter fun x => decide (x ∈ nms a)⟩ from by unfold later; rw [ea]; rfl] at h'
        rw [show DL.isNon (optL size r (some a)) = false from rfl]
        infer_instance
        exact h'
  | copy t g =>
    rw [show deedD (.copy t g) = .tup [.str "copy", .str t, .str g] from rfl]
    infer_instance
    refine DL.in_str (xs := ["join", "leave"]) rfl ?_
    rw [show decide ((("copy" : Str)) ∈ (["join", "leave"] : List Str)) = false from by decide]
    infer_instance
    refine eq_strA ?_
    infer_instance
    refine DL.in_str (xs := ["copy", "repair"]) rfl ?_
    rw [show decide ((("copy" : Str)) ∈ (["copy", "repair"] : List Str)) = true from by decide]
    infer_instance
    refine eq_strA ?_
    infer_instance
    refine ⟨size, r, s.aft, rfl, hal, ?_⟩
    infer_instance
    refine DL.in_str rfl ?_
    infer_instance
    have h' := h M (Kept.refl M)
    have hno : (decide (t ∈ onms s.aft) && gives s t g) = false → q .non M := fun e => by
      rw [show later s (.copy t g) = none from if_neg (by rw [e]; exact Bool.false_ne_true)] at h'
      exact h'
    refine ifD (fun e1 => ?_) (fun e1 => ?_)
    · infer_instance
      have e1' : t ∈ onms s.aft := e1
      refine ⟨size, r, some s.now, rfl, hnow, ?_⟩
      infer_instance
      refine DL.in_str rfl ?_
      infer_instance
      refine ifD (fun e2 => ?_) (fun e2 => ?_)
      · infer_instance
        refine ne_strA ?_
        infer_instance
        have e2' : g ∈ nms s.now := e2
        refine ifB (fun e3 => ?_) (fun e3 => ?_)
        · infer_instance
          have e3' : ¬ g = t := fun e => by simp [e] at e3
          refine ni_str rfl ?_
          infer_instance
          refine ifB (fun e4 => ?_) (fun e4 => ?_)
          · infer_instance
            refine ni_str rfl ?_
            infer_instance
            refine ifB (fun e5 => ?_) (fun e5 => ?_)
            · infer_instance
              rw [show later s (.copy t g) = some s from if_pos (by simp only [gives, decide_eq_true e1', decide_eq_true e2', decide_eq_false e3', e4, e5]; rfl)] at h'
              exact h'
            · infer_instance
              exact hno (by simp [gives, e5])
          · infer_instance
            exact hno (by simp [gives, e4])
        · infer_instance
          exact hno (by have : t = g := by simpa using e3
                        simp [gives, this])
      · infer_instance
        exact hno (by have : ¬ g ∈ nms s.now := e2
                      simp [gives, this])
    · infer_instance
      exact hno (by have : ¬ t ∈ onms s.aft := e1
                    simp [this])
  | repair t g =>
    rw [show deedD (.repair t g) = .tup [.str "repair", .str t, .str g] from rfl]
    infer_instance
    refine DL.in_str (xs := ["join", "leave"]) rfl ?_
    rw [show decide ((("repair" : Str)) ∈ (["join", "leave"] : List Str)) = false from by decide]
    infer_instance
    refine eq_strA ?_
    infer_instance
    refine DL.in_str (xs := ["copy", "repair"]) rfl ?_
    rw [show decide ((("repair" : Str)) ∈ (["copy", "repair"] : List Str)) = true from by decide]
    infer_instance
    refine eq_strA ?_
    infer_instance
    refine ⟨size, r, some s.now, rfl, hnow, ?_⟩
    infer_instance
    refine DL.in_str rfl ?_
    infer_instance
    have h' := h M (Kept.refl M)
    have hno : (decide (t ∈ nms s.now) && gives s t g) = false → q .non M := fun e => by
      rw [show later s (.repair t g) = none from if_neg (by rw [e]; exact Bool.false_ne_true)] at h'
      exact h'
    refine ifD (fun e1 => ?_) (fun e1 => ?_)
    · infer_instance
      have e1' : t ∈ nms s.now := e1
      refine ⟨size, r, some s.now, rfl, hnow, ?_⟩
      infer_instance
      refine DL.in_str rfl ?_
      infer_instance
      refine ifD (fun e2 => ?_) (fun e2 => ?_)
      · infer_instance
        refine ne_strA ?_
        infer_instance
        have e2' : g ∈ nms s.now := e2
        refine ifB (fun e3 => ?_) (fun e3 => ?_)
        · infer_instance
          have e3' : ¬ g = t := fun e => by simp [e] at e3
          refine ni_str rfl ?_
          infer_instance
          refine ifB (fun e4 => ?_) (fun e4 => ?_)
          · infer_instance
            refine ni_str rfl ?_
            infer_instance
            refine ifB (fun e5 => ?_) (fun e5 => ?_)
            · infer_instance
              rw [show later s (.repair t g) = some s from if_pos (by simp only [gives, decide_eq_true e1', decide_eq_true e2', decide_eq_false e3', e4, e5]; rfl)] at h'
              exact h'
            · infer_instance
              exact hno (by simp [gives, e5])
          · infer_instance
            exact hno (by simp [gives, e4])
        · infer_instance
          exact hno (by have : t = g := by simpa using e3
                        simp [gives, this])
      · infer_instance
        exact hno (by have : ¬ g ∈ nms s.now := e2
                      simp [gives, this])
    · infer_instance
      exact hno (by have : ¬ t ∈ nms s.now := e1
                    simp [this])
  | down x =>
    rw [show deedD (.down x) = .tup [.str "down", .str x] from rfl]
    infer_instance
    refine DL.in_str (xs := ["join", "leave"]) rfl ?_
    rw [show decide ((("down" : Str)) ∈ (["join", "leave"] : List Str)) = false from by decide]
    infer_instance
    refine eq_strA ?_
    infer_instance
    refine DL.in_str (xs := ["copy", "repair"]) rfl ?_
    rw [show decide ((("down" : Str)) ∈ (["copy", "repair"] : List Str)) = false from by decide]
    infer_instance
    refine ⟨size, r, some s.now, rfl, hnow, ?_⟩
    infer_instance
    refine ⟨size, r, s.aft, rfl, hal, ?_⟩
    infer_instance
    refine add_lst rfl rfl (by rw [List.length_map, List.length_map, sizeLine_eq]; show (nms s.now).length + _ ≤ _; omega) ?_
    rw [← List.map_append]
    infer_instance
    refine ni_str rfl ?_
    infer_instance
    have hk : decide (x ∈ onms (some s.now) ++ onms s.aft) = known s x := by
      show decide (x ∈ nms s.now ++ onms s.aft) = _
      simp [known, List.mem_append]
    rw [hk]
    refine ifB (fun e1 => ?_) (fun e1 => ?_)
    · infer_instance
      have h' := h M (Kept.refl M)
      have e1' : known s x = false := by simpa using e1
      rw [show later s (.down x) = none from if_neg (by rw [e1']; exact Bool.false_ne_true)] at h'
      exact h'
    infer_instance
    have e1' : known s x = true := by simpa using e1
    refine ne_strA ?_
    rw [show (!decide ((("down" : Str)) = "wipe")) = true from by decide]
    infer_instance
    refine eq_strA ?_
    rw [show decide ((("down" : Str)) = "up") = false from by decide]
    infer_instance
    refine DL.in_str rfl ?_
    infer_instance
    refine ne_bl ?_
    infer_instance
    refine ifB (fun e2 => ?_) (fun e2 => ?_)
    · infer_instance
      have h' := h M (Kept.refl M)
      rw [show later s (.down x) = none from if_neg (by rw [e1']; simpa using e2)] at h'
      exact h'
    infer_instance
    have e2' : x ∉ s.dn := by simpa using e2
    intro c hcn
    refine lc_dn s.dn (fun y => !decide (y = x)) hcn (by omega) (fun _ => rfl) (fun y hy acc hz nx h1 h2 => ?_) ?_
    · infer_instance
      refine ne_strA ?_
      infer_instance
      refine ifB (fun e => ?_) (fun e => ?_)
      · infer_instance
        exact acc_put hz (h1 e)
      · exact h2 e
    infer_instance
    intro p hp
    have hfl : (s.dn.filter fun y => !decide (y = x)).length ≤ s.dn.length := List.length_filter_le _ _
    infer_instance
    refine add_lst rfl rfl (by rw [List.length_map, sizeLine_eq]; simp only [List.length_cons, List.length_nil]; omega) ?_
    infer_instance
    refine ⟨_, _, (s.dn.filter fun y => !decide (y = x)) ++ [x], rfl, rfl, by rw [show ((s.dn.filter fun y => !decide (y = x)).map D.str ++ [D.str x]) = ((s.dn.filter fun y => !decide (y = x)) ++ [x]).map D.str by rw [List.map_append]; rfl]; exact DL.strs_map _, by rw [List.length_append, List.length_singleton]; omega, fun ys hpm hso => ?_⟩
    infer_instance
    refine ⟨mset_same, ?_⟩
    infer_instance
    refine ⟨p, _, .inr "down", _, rfl, mset_same, rfl, rfl, ?_⟩
    infer_instance
    have h' := h (mset (mset M p (.dc [])) p (.dc [(.inr "wipe", strsL s.dn), (.inr "up", strsL (s.dn.filter fun y => !decide (y = x))), (.inr "down", strsL ys)])) (by rw [mset_mset]; exact Kept.new hp)
    rw [show later s (.down x) = some ⟨s.now, s.aft, sortS (s.dn ++ [x])⟩ from if_pos (by rw [e1', decide_eq_false e2']; rfl)] at h'
    rw [filt_out e2'] at hpm
    rw [sortS_of hpm hso] at h' ⊢
    exact h'
  | up x =>
    rw [show deedD (.up x) = .tup [.str "up", .str x] from rfl]
    infer_instance
    refine DL.in_str (xs := ["join", "leave"]) rfl ?_
    rw [show decide ((("up" : Str)) ∈ (["join", "leave"] : List Str)) = false from by decide]
    infer_instance
    refine eq_strA ?_
    infer_instance
    refine DL.in_str (xs := ["copy", "repair"]) rfl ?_
    rw [show decide ((("up" : Str)) ∈ (["copy", "repair"] : List Str)) = false from by decide]
    infer_instance
    refine ⟨size, r, some s.now, rfl, hnow, ?_⟩
    infer_instance
    refine ⟨size, r, s.aft, rfl, hal, ?_⟩
    infer_instance
    refine add_lst rfl rfl (by rw [List.length_map, List.length_map, sizeLine_eq]; show (nms s.now).length + _ ≤ _; omega) ?_
    rw [← List.map_append]
    infer_instance
    refine ni_str rfl ?_
    infer_instance
    have hk : decide (x ∈ onms (some s.now) ++ onms s.aft) = known s x := by
      show decide (x ∈ nms s.now ++ onms s.aft) = _
      simp [known, List.mem_append]
    rw [hk]
    refine ifB (fun e1 => ?_) (fun e1 => ?_)
    · infer_instance
      have h' := h M (Kept.refl M)
      have e1' : known s x = false := by simpa using e1
      rw [show later s (.up x) = none from if_neg (by rw [e1']; exact Bool.false_ne_true)] at h'
      exact h'
    infer_instance
    have e1' : known s x = true := by simpa using e1
    refine ne_strA ?_
    rw [show (!decide ((("up" : Str)) = "wipe")) = true from by decide]
    infer_instance
    refine eq_strA ?_
    rw [show decide ((("up" : Str)) = "up") = true from by decide]
    infer_instance
    refine DL.in_str rfl ?_
    infer_instance
    refine ne_bl ?_
    infer_instance
    refine ifB (fun e2 => ?_) (fun e2 => ?_)
    · infer_instance
      have h' := h M (Kept.refl M)
      rw [show later s (.up x) = none from if_neg (by rw [e1']; simpa using e2)] at h'
      exact h'
    infer_instance
    have e2' : x ∈ s.dn := by simpa using e2
    intro c hcn
    refine lc_dn s.dn (fun y => !decide (y = x)) hcn (by omega) (fun _ => rfl) (fun y hy acc hz nx h1 h2 => ?_) ?_
    · infer_instance
      refine ne_strA ?_
      infer_instance
      refine ifB (fun e => ?_) (fun e => ?_)
      · infer_instance
        exact acc_put hz (h1 e)
      · exact h2 e
    infer_instance
    intro p hp
    have hfl : (s.dn.filter fun y => !decide (y = x)).length ≤ s.dn.length := List.length_filter_le _ _
    infer_instance
    refine add_lst rfl rfl (by rw [List.length_map, sizeLine_eq]; simp only [List.length_cons, List.length_nil]; omega) ?_
    infer_instance
    refine ⟨_, _, (s.dn.filter fun y => !decide (y = x)) ++ [x], rfl, rfl, by rw [show ((s.dn.filter fun y => !decide (y = x)).map D.str ++ [D.str x]) = ((s.dn.filter fun y => !decide (y = x)) ++ [x]).map D.str by rw [List.map_append]; rfl]; exact DL.strs_map _, by rw [List.length_append, List.length_singleton]; omega, fun ys hpm hso => ?_⟩
    infer_instance
    refine ⟨mset_same, ?_⟩
    infer_instance
    refine ⟨p, _, .inr "up", _, rfl, mset_same, rfl, rfl, ?_⟩
    infer_instance
    have h' := h (mset (mset M p (.dc [])) p (.dc [(.inr "wipe", strsL s.dn), (.inr "up", strsL (s.dn.filter fun y => !decide (y = x))), (.inr "down", strsL ys)])) (by rw [mset_mset]; exact Kept.new hp)
    rw [show later s (.up x) = some ⟨s.now, s.aft, s.dn.filter fun y => !decide (y = x)⟩ from if_pos (by rw [e1', decide_eq_true e2']; rfl)] at h'
    exact h'
  | wipe x =>
    rw [show deedD (.wipe x) = .tup [.str "wipe", .str x] from rfl]
    infer_instance
    refine DL.in_str (xs := ["join", "leave"]) rfl ?_
    rw [show decide ((("wipe" : Str)) ∈ (["join", "leave"] : List Str)) = false from by decide]
    infer_instance
    refine eq_strA ?_
    infer_instance
    refine DL.in_str (xs := ["copy", "repair"]) rfl ?_
    rw [show decide ((("wipe" : Str)) ∈ (["copy", "repair"] : List Str)) = false from by decide]
    infer_instance
    refine ⟨size, r, some s.now, rfl, hnow, ?_⟩
    infer_instance
    refine ⟨size, r, s.aft, rfl, hal, ?_⟩
    infer_instance
    refine add_lst rfl rfl (by rw [List.length_map, List.length_map, sizeLine_eq]; show (nms s.now).length + _ ≤ _; omega) ?_
    rw [← List.map_append]
    infer_instance
    refine ni_str rfl ?_
    infer_instance
    have hk : decide (x ∈ onms (some s.now) ++ onms s.aft) = known s x := by
      show decide (x ∈ nms s.now ++ onms s.aft) = _
      simp [known, List.mem_append]
    rw [hk]
    refine ifB (fun e1 => ?_) (fun e1 => ?_)
    · infer_instance
      have h' := h M (Kept.refl M)
      have e1' : known s x = false := by simpa using e1
      rw [show later s (.wipe x) = none from if_neg (by rw [e1']; exact Bool.false_ne_true)] at h'
      exact h'
    infer_instance
    have e1' : known s x = true := by simpa using e1
    refine ne_strA ?_
    rw [show (!decide ((("wipe" : Str)) = "wipe")) = false from by decide]
    infer_instance
    intro c hcn
    refine lc_dn s.dn (fun y => !decide (y = x)) hcn (by omega) (fun _ => rfl) (fun y hy acc hz nx h1 h2 => ?_) ?_
    · infer_instance
      refine ne_strA ?_
      infer_instance
      refine ifB (fun e => ?_) (fun e => ?_)
      · infer_instance
        exact acc_put hz (h1 e)
      · exact h2 e
    infer_instance
    intro p hp
    have hfl : (s.dn.filter fun y => !decide (y = x)).length ≤ s.dn.length := List.length_filter_le _ _
    infer_instance
    refine add_lst rfl rfl (by rw [List.length_map, sizeLine_eq]; simp only [List.length_cons, List.length_nil]; omega) ?_
    infer_instance
    refine ⟨_, _, (s.dn.filter fun y => !decide (y = x)) ++ [x], rfl, rfl, by rw [show ((s.dn.filter fun y => !decide (y = x)).map D.str ++ [D.str x]) = ((s.dn.filter fun y => !decide (y = x)) ++ [x]).map D.str by rw [List.map_append]; rfl]; exact DL.strs_map _, by rw [List.length_append, List.length_singleton]; omega, fun ys hpm hso => ?_⟩
    infer_instance
    refine ⟨mset_same, ?_⟩
    infer_instance
    refine ⟨p, _, .inr "wipe", _, rfl, mset_same, rfl, rfl, ?_⟩
    infer_instance
    have h' := h (mset (mset M p (.dc [])) p (.dc [(.inr "wipe", strsL s.dn), (.inr "up", strsL (s.dn.filter fun y => !decide (y = x))), (.inr "down", strsL ys)])) (by rw [mset_mset]; exact Kept.new hp)
    rw [show later s (.wipe x) = some s from if_pos e1'] at h'
    exact h'
theorem kp_step (C : Addr) : Keeps N_step 2 (sd_step C) (db_step C) := by
  rintro ds M q ex hl ⟨k, g, size, r, s, rfl, s1, s2, hs, hK, hg, h⟩
  have hfew := hs.c.few
  have hdn := hs.d
  have hal := onms_len hs
  have hon := onms_le hs
  have hnl : (nms s.now).length = s.now.length := List.length_map _
  have hnow : ∀ a, some s.now = some a → a.length ≤ 12 := fun a e => by cases e; exact hfew
  show db_step C _ [some (.cel k), some (standD size r s), none, none, none, none, none, none, none, none, none] M
  unfold db_step standD
  infer_instance
  refine ⟨size, r, some s.now, rfl, hnow, ?_⟩
  infer_instance
  refine ⟨size, r, s.aft, rfl, hal, ?_⟩
  infer_instance
  refine add_lst rfl rfl (by rw [List.length_map, List.length_map, sizeLine_eq]; show (nms s.now).length + _ ≤ _; omega) ?_
  rw [← List.map_append]
  infer_instance
  refine add_lst rfl rfl (by rw [List.length_map, List.length_append, sizeLine_eq]; simp only [List.length_cons, List.length_nil]; show (nms s.now).length + _ + _ ≤ _; omega) ?_
  have hKN : ∃ x0 rest, ((onms (some s.now) ++ onms s.aft).map D.str ++ [D.str "n", D.str "m"]) = (x0 :: rest : List Str).map D.str ∧ nameB x0 = true ∧ rest.length ≤ 30 := by
    have hne := hs.c.ne
    have hnm := crew_name hs.c
    show ∃ x0 rest, ((nms s.now ++ onms s.aft).map D.str ++ [D.str "n", D.str "m"]) = _ ∧ _
    unfold nms at hnl ⊢
    cases e : s.now with
    | nil => exact absurd e hne
    | cons o l =>
      rw [e] at hnm hnl hfew
      refine ⟨o.name, l.map (·.name) ++ onms s.aft ++ (["n", "m"] : List Str), by simp, hnm o (by simp), ?_⟩
      rw [List.length_append, List.length_append, List.length_map]
      simp only [List.length_cons, List.length_nil] at hfew ⊢
      omega
  obtain ⟨x0, rest, eK, hx0, hrl⟩ := hKN
  rw [eK]
  have hKL : ((x0 :: rest : List Str).map D.str).length = rest.length + 1 := by rw [List.length_map]; rfl
  infer_instance
  refine ⟨k, 12, g, rfl, by decide, by decide, hK, by omega, fun v M1 v0 v1 hB1 hK1 => ?_⟩
  infer_instance
  refine ifD (fun e1 => ?_) (fun e1 => ?_)
  · infer_instance
    refine ⟨s.now, rfl, by omega, fun o ho => (crew_marks hs.c o ho).few, ?_⟩
    infer_instance
    rw [List.length_map]
    refine ifD (fun e2 => ?_) (fun e2 => ?_)
    · infer_instance
      refine ⟨k, _, size, s.now.flatMap (·.marks), 2, rfl, e2, by omega, by omega, by decide, by decide, hK1, by omega, fun ms M2 hms hm1 hmf hB2 hK2 => ?_⟩
      infer_instance
      refine ix_lst (d := .str x0) (atI_nat (n := 0) rfl) ?_
      infer_instance
      refine ⟨k, _, _, _, rfl, (fun z => nomatch z), rfl, by simp, by simp, hK2, by omega, fun y M3 my hB3 hK3 => ?_⟩
      obtain ⟨x, hx, rfl⟩ : ∃ x : Str, nameB x = true ∧ y = .str x := by
        simp only [List.mem_cons, List.not_mem_nil, or_false] at my
        rcases my with rfl | rfl | rfl | rfl
        · exact ⟨_, by decide +kernel, rfl⟩
        · exact ⟨_, by decide +kernel, rfl⟩
        · exact ⟨_, by decide +kernel, rfl⟩
        · exact ⟨_, hx0, rfl⟩
      infer_instance
      refine ⟨k, _, _, _, rfl, (fun z => nomatch z), rfl, by simp, by simp, hK3, by omega, fun y M4 my hB4 hK4 => ?_⟩
      obtain ⟨b, hb, rfl⟩ : ∃ x : Str, nameB x = true ∧ y = .str x := by
        simp only [List.mem_cons, List.not_mem_nil, or_false] at my
        rcases my with rfl | rfl | rfl
        · exact ⟨_, by decide +kernel, rfl⟩
        · exact ⟨_, by decide +kernel, rfl⟩
        · exact ⟨_, by decide +kernel, rfl⟩
      infer_instance
      exact h (.join x b ms) M4 ⟨hx, hb, hms⟩ (((hB1.trans hB2).trans hB3).trans hB4) (kg_le hK4 (by omega))
    · infer_instance
      infer_instance
      refine ix_lst (d := .str x0) (atI_nat (n := 0) rfl) ?_
      infer_instance
      refine ⟨k, _, _, _, rfl, (fun z => nomatch z), rfl, by simp, by simp, hK1, by omega, fun y M3 my hB3 hK3 => ?_⟩
      obtain ⟨x, hx, rfl⟩ : ∃ x : Str, nameB x = true ∧ y = .str x := by
        simp only [List.mem_cons, List.not_mem_nil, or_false] at my
        rcases my with rfl | rfl | rfl | rfl
        · exact ⟨_, by decide +kernel, rfl⟩
        · exact ⟨_, by decide +kernel, rfl⟩
        · exact ⟨_, by decide +kernel, rfl⟩
        · exact ⟨_, hx0, rfl⟩
      infer_instance
      refine ⟨k, _, _, _, rfl, (fun z => nomatch z), rfl, by simp, by simp, hK3, by omega, fun y M4 my hB4 hK4 => ?_⟩
      obtain ⟨b, hb, rfl⟩ : ∃ x : Str, nameB x = true ∧ y = .str x := by
        simp only [List.mem_cons, List.not_mem_nil, or_false] at my
        rcases my with rfl | rfl | rfl
        · exact ⟨_, by decide +kernel, rfl⟩
        · exact ⟨_, by decide +kernel, rfl⟩
        · exact ⟨_, by decide +kernel, rfl⟩
      infer_instance
      exact h (.join x b [0]) M4 ⟨hx, hb, ⟨by simp, by simp, by simp, fun m hm => by simp at hm; subst hm; omega⟩⟩ ((hB1.trans hB3).trans hB4) (kg_le hK4 (by omega))
  infer_instance
  refine ifD (fun e2 => ?_) (fun e2 => ?_)
  · infer_instance
    exact h .settle M1 trivial hB1 (kg_le hK1 (by omega))
  infer_instance
  refine ifD (fun e3 => ?_) (fun e3 => ?_)
  · infer_instance
    refine ⟨k, _, _, _, rfl, (fun z => nomatch z), rfl, by rw [hKL]; omega, by rw [hKL]; omega, hK1, by omega, fun y M2 my hB2 hK2 => ?_⟩
    obtain ⟨x, _, rfl⟩ := List.mem_map.mp my
    infer_instance
    exact h (.leave x) M2 trivial (hB1.trans hB2) (kg_le hK2 (by omega))
  infer_instance
  refine ifD (fun e4 => ?_) (fun e4 => ?_)
  · infer_instance
    refine ⟨k, _, _, _, rfl, (fun z => nomatch z), rfl, by rw [hKL]; omega, by rw [hKL]; omega, hK1, by omega, fun y M2 my hB2 hK2 => ?_⟩
    obtain ⟨t, _, rfl⟩ := List.mem_map.mp my
    infer_instance
    refine ⟨k, _, _, _, rfl, (fun z => nomatch z), rfl, by rw [hKL]; omega, by rw [hKL]; omega, hK2, by omega, fun y M3 my hB3 hK3 => ?_⟩
    obtain ⟨z, _, rfl⟩ := List.mem_map.mp my
    infer_instance
    intro c hc
    have hck := kg_ne hK3 hc
    have hcM : M c = none := by
      cases e : M c with
      | none => rfl
      | some y => have := hB3 c _ (hB2 c _ (hB1 c _ e hck) hck) hck; rw [hc] at this; cases this
    infer_instance
    rw [isN_optL]
    refine ifB (fun e5 => ?_) (fun e5 => ?_)
    · cases ea : s.aft with
      | none => rw [ea] at e5; simp at e5
      | some a =>
        have hane := (hs.a a ea).1.ne
        have hac := hal a ea
        have hanl : (nms a).length = a.length := List.length_map _
        have hap : 1 ≤ (nms a).length := by rw [hanl]; exact List.length_pos_iff.mpr hane
        have hK3c := kg_put (x := .ls [D.str t, D.str z]) hK3 hc
        infer_instance
        refine ⟨k, 3, _, rfl, by decide, by decide, hK3c, by omega, fun v2 M4 v20 v21 hB4 hK4 => ?_⟩
        have hC4 := hB4 c _ mset_same hck
        infer_instance
        refine ifD (fun e6 => ?_) (fun e6 => ?_)
        · infer_instance
          refine ⟨size, r, some a, rfl, fun b e => by cases e; exact hac, ?_⟩
          infer_instance
          refine sl_lst (n := 2) ?_
          infer_instance
          refine ⟨size, r, some a, rfl, fun b e => by cases e; exact hac, ?_⟩
          infer_instance
          refine add_lst rfl rfl (by rw [List.length_map, sizeLine_eq]; show _ + (nms a).length ≤ _; rw [List.length_take]; omega) ?_
          have hpl : ((((onms (some a)).map D.str).reverse.take 2) ++ (onms (some a)).map D.str).length ≤ 2 + (nms a).length ∧ 1 ≤ ((((onms (some a)).map D.str).reverse.take 2) ++ (onms (some a)).map D.str).length := by
            rw [List.length_append, List.length_take, List.length_reverse, List.length_map]
            show _ + (nms a).length ≤ _ ∧ 1 ≤ _ + (nms a).length
            omega
          infer_instance
          refine ⟨k, _, _, _, rfl, (fun z => nomatch z), rfl, by omega, by omega, hK4, by omega, fun y M5 my hB5 hK5 => ?_⟩
          obtain ⟨t2, rfl⟩ : ∃ t2 : Str, y = .str t2 := by
            rcases List.mem_append.mp my with z | z
            · obtain ⟨t2, _, e⟩ := List.mem_map.mp (List.mem_reverse.mp (List.mem_of_mem_take z)); exact ⟨t2, e.symm⟩
            · obtain ⟨t2, _, e⟩ := List.mem_map.mp z; exact ⟨t2, e.symm⟩
          have hC5 := hB5 c _ hC4 hck
          infer_instance
          have hK5' : Kg (mset M5 c (.ls [D.str t2, D.str z])) k (g + 1 + 1 + 1 + 1 + 1) := by
            obtain ⟨b1, b2, b3, b4, b5⟩ := hK5
            exact ⟨b1, b2, b3, by rw [mset_ne (Ne.symm hck)]; exact b4, b5⟩
          refine ⟨k, _, _, _, rfl, (fun z => nomatch z), rfl, by simp, by simp, hK5', by omega, fun y M9 my hB9 hK9 => ?_⟩
          have hC9 := hB9 c _ mset_same hck
          have hkd : KeptB k M M9 := ((((((hB1.trans hB2).trans hB3).put hcM).trans hB4).trans hB5).put hcM).trans hB9
          infer_instance
          simp only [List.mem_cons, List.not_mem_nil, or_false] at my
          rcases my with rfl | rfl | rfl
          · exact h (.copy t2 z) M9 trivial hkd (kg_le hK9 (by omega))
          · exact h (.copy t2 z) M9 trivial hkd (kg_le hK9 (by omega))
          · exact h (.repair t2 z) M9 trivial hkd (kg_le hK9 (by omega))
        · infer_instance
          refine ⟨k, _, _, _, rfl, (fun z => nomatch z), rfl, by simp, by simp, hK4, by omega, fun y M9 my hB9 hK9 => ?_⟩
          have hC9 := hB9 c _ hC4 hck
          have hkd : KeptB k M M9 := (((((hB1.trans hB2).trans hB3).put hcM).trans hB4).trans hB9)
          infer_instance
          simp only [List.mem_cons, List.not_mem_nil, or_false] at my
          rcases my with rfl | rfl | rfl
          · exact h (.copy t z) M9 trivial hkd (kg_le hK9 (by omega))
          · exact h (.copy t z) M9 trivial hkd (kg_le hK9 (by omega))
          · exact h (.repair t z) M9 trivial hkd (kg_le hK9 (by omega))
    · infer_instance
      refine ⟨k, _, _, _, rfl, (fun z => nomatch z), rfl, by simp, by simp, (kg_put hK3 hc), by omega, fun y M9 my hB9 hK9 => ?_⟩
      have hC9 := hB9 c _ mset_same hck
      have hkd : KeptB k M M9 := ((((hB1.trans hB2).trans hB3).put hcM).trans hB9)
      infer_instance
      simp only [List.mem_cons, List.not_mem_nil, or_false] at my
      rcases my with rfl | rfl | rfl
      · exact h (.copy t z) M9 trivial hkd (kg_le hK9 (by omega))
      · exact h (.copy t z) M9 trivial hkd (kg_le hK9 (by omega))
      · exact h (.repair t z) M9 trivial hkd (kg_le hK9 (by omega))
  · infer_instance
    refine ⟨k, _, _, _, rfl, (fun z => nomatch z), rfl, by simp, by simp, hK1, by omega, fun y M2 my hB2 hK2 => ?_⟩
    have hyk : y = .str "down" ∨ y = .str "up" ∨ y = .str "wipe" := by
      simp only [List.mem_cons, List.not_mem_nil, or_false] at my
      rcases my with rfl | rfl | rfl | rfl
      · exact .inl rfl
      · exact .inr (.inl rfl)
      · exact .inr (.inl rfl)
      · exact .inr (.inr rfl)
    infer_instance
    refine add_lst rfl rfl (by rw [hKL, List.length_map, sizeLine_eq]; omega) ?_
    rw [← List.map_append]
    infer_instance
    refine add_lst rfl rfl (by rw [List.length_map, List.length_append, List.length_map, sizeLine_eq]; simp only [List.length_cons]; omega) ?_
    rw [← List.map_append]
    infer_instance
    have hKL2 : (((x0 :: rest) ++ s.dn ++ s.dn : List Str).map D.str).length = rest.length + 1 + s.dn.length + s.dn.length := by rw [List.length_map, List.length_append, List.length_append]; rfl
    refine ⟨k, _, _, _, rfl, (fun z => nomatch z), rfl, by rw [hKL2]; omega, by rw [hKL2]; omega, hK2, by omega, fun y2 M3 my2 hB3 hK3 => ?_⟩
    obtain ⟨x, _, rfl⟩ := List.mem_map.mp my2
    infer_instance
    rcases hyk with rfl | rfl | rfl
    · exact h (.down x) M3 trivial ((hB1.trans hB2).trans hB3) (kg_le hK3 (by omega))
    · exact h (.up x) M3 trivial ((hB1.trans hB2).trans hB3) (kg_le hK3 (by omega))
    · exact h (.wipe x) M3 trivial ((hB1.trans hB2).trans hB3) (kg_le hK3 (by omega))
end L31
set_option maxRecDepth 100000
set_option maxHeartbeats 1000000
namespace L31
open PySem PySem.Spec PyProof.Rows L2 DL R
local macro_rules | `(tactic| bv_omega) => `(tactic| first | assumption | exact mset_same)
local macro_rules | `(tactic| symm) => `(tactic| first
  | ((with_reducible show ∃ _, _ = _ ∧ _); refine ⟨_, rfl, ?_⟩)
  | ((with_reducible show _ = _ ∧ _); refine ⟨rfl, ?_⟩)
  | ((with_reducible show ∃ _ _, _ = _ ∧ _ = _ ∧ _); refine ⟨_, _, rfl, rfl, ?_⟩)
  | ((with_reducible show ∃ _ _, _ = _ ∧ _); refine ⟨_, _, rfl, ?_⟩)
  | ((with_reducible show ∃ _ _ _, _ = _ ∧ _); refine ⟨_, _, _, rfl, ?_⟩)
  | ((with_reducible show (_ ≤ _ ∧ _) ∧ _); refine ⟨by omega, ?_⟩)
  | with_reducible refine add_int ?_ | with_reducible refine sub_int ?_
  | with_reducible refine lt_int ?_ | with_reducible refine le_int ?_ | with_reducible refine gt_int ?_ | with_reducible refine ge_int ?_
  | with_reducible refine int_int ?_
  | with_reducible refine eq_int ?_ | with_reducible refine ne_int ?_
  | with_reducible refine len_tup ?_ | with_reducible refine len_lst ?_
  | ((with_reducible show rdIx (.cel _) (.int _) _ _); refine ix_cel (by bv_omega) (by rfl) ?_)
  | ((with_reducible show rdIx (.lst _) (.int _) _ _); refine ix_lst (by rfl) ?_)
  | ((with_reducible show rdIx (.tup _) (.int _) _ _); refine ix_tup (by rfl) ?_)
  | ((with_reducible show rdLen [.cel _] _ _); refine len_cel (by bv_omega) ?_)
  | ((with_reducible show rdMul (.int _) (.int _) _ _); first | refine mul_l (by decide) (by decide) ?_ | refine mul_r (by decide) (by decide) ?_ | refine mul_l (by omega) (by omega) ?_ | refine mul_r (by omega) (by omega) ?_)
  | ((with_reducible show rdDiv (.int _) (.int _) _ _); refine div_int (by first | decide | assumption | omega) (by first | decide | assumption | omega) ?_)
  | ((with_reducible show rdDivmod [.int _, .int _] _ _); refine dm_int (by first | decide | assumption | omega) (by first | decide | assumption | omega) ?_)
  | ((with_reducible show @ite _ (_ = true) _ _ _); first | refine ifYes (by first | with_reducible rfl | exact Bool.not_false | assumption) ?_ | refine ifNo (by first | with_reducible rfl | exact Bool.not_true | assumption) ?_)
  | ((with_reducible show ∃ _, _ ∧ _); refine ⟨_, celL_of (by bv_omega), ?_⟩)
  | ((with_reducible show ∃ _ _ _ _, _ ∧ _ ∧ _ ∧ _ ∧ _); refine ⟨_, _, _, _, rfl, rfl, by bv_omega, by rfl, ?_⟩)
  | ((with_reducible show (_ : Nat) ≤ sizeLine ∧ _); refine ⟨by rw [sizeLine_eq]; exact Nat.le_of_ble_eq_true rfl, ?_⟩))
local macro_rules | `(tactic| infer_instance) => `(tactic| ((repeat symm); try dsimp only))
local macro_rules | `(tactic| ac_rfl) => `(tactic| ((repeat (first | symm | ((with_reducible show rdMod (.int _) (.int _) _ _); refine mod_any (by first | decide | assumption | omega) ?_; intro _ _ _))); try dsimp only))
theorem st_up {size : Int} {n m : Nat} {s : St} (h : StOk size n s) (hm : n ≤ m) : StOk size m s := ⟨h.c, h.a, Nat.le_trans h.d hm⟩
theorem changed_ok {size : Int} {hs gs : List Host} {d : Deed} (hc : CrewOk size hs) (hd : DeedOk size d) (h : changed hs d = some gs) : CrewOk size gs ∧ Near hs gs := by
  cases d with
  | join x b ms =>
    have h' : (if (decide (x ∈ nms hs) || (decide (hs.length = 12) || !(ms.all fun m => !decide (m ∈ hs.flatMap (·.marks))))) = true then none else some (hs ++ [⟨x, b, ms⟩])) = some gs := h
    split at h'
    · cases h'
    · rename_i e
      cases h'
      have e' : (decide (x ∈ nms hs) || (decide (hs.length = 12) || !(ms.all fun m => !decide (m ∈ hs.flatMap (·.marks))))) = false := by simpa using e
      rw [Bool.or_eq_false_iff, Bool.or_eq_false_iff] at e'
      obtain ⟨h1, h2, h3⟩ := e'
      have h1' : x ∉ nms hs := of_decide_eq_false h1
      have h2' : ¬ hs.length = 12 := of_decide_eq_false h2
      have h3' : ∀ m ∈ ms, m ∉ hs.flatMap (·.marks) := fun m hm => by
        have h4 : (ms.all fun m => !decide (m ∈ hs.flatMap (·.marks))) = true := by simpa using h3
        have := List.all_eq_true.mp h4 m hm
        simpa using this
      have hf : ∀ o ∈ hs, o.name ≠ x := fun o ho e => h1' (List.mem_map.mpr ⟨o, ho, e⟩)
      have hfew := hc.few
      exact ⟨crew_snoc hc (by omega) ⟨hd.1, hd.2.1, hf, hd.2.2, fun o ho m hm hmo => h3' m hm (List.mem_flatMap.mpr ⟨o, ho, hmo⟩)⟩, .inl ⟨_, rfl, hf⟩⟩
  | leave x =>
    have h' : (if (decide (x ∈ nms hs) && decide (2 ≤ hs.length)) = true then some (hs.filter fun h => !decide (h.name = x)) else none) = some gs := h
    split at h'
    · rename_i e
      cases h'
      rw [Bool.and_eq_true] at e
      have h1 : x ∈ nms hs := of_decide_eq_true e.1
      have h2 : 2 ≤ hs.length := of_decide_eq_true e.2
      obtain ⟨o, ho, eo⟩ := List.mem_map.mp h1
      have hl := left_len hc h1
      subst eo
      exact ⟨crew_filter _ hc (fun e => by rw [e] at hl; simp at hl; omega), .inr ⟨o, ho, h2, rfl⟩⟩
    · cases h'
  | copy t g => cases h
  | settle => cases h
  | down x => cases h
  | up x => cases h
  | wipe x => cases h
  | repair t g => cases h
theorem st_next {size : Int} {n : Nat} {s s' : St} {d : Deed} (h : StOk size n s) (hd : DeedOk size d) (hl : later s d = some s') : StOk size (n + 1) s' := by
  have same : ∀ b : Bool, (if b = true then some s else none) = some s' → StOk size (n + 1) s' := fun b e => by
    split at e
    · cases e; exact st_up h (by omega)
    · cases e
  cases d with
  | join x b ms =>
    have e : (if s.aft = none then (changed s.now (.join x b ms)).map fun a => (⟨s.now, some a, s.dn⟩ : St) else none) = some s' := hl
    split at e
    · obtain ⟨a, ha, rfl⟩ := omap e
      have := changed_ok h.c hd ha
      exact ⟨h.c, fun gs eg => (by cases eg; exact this), Nat.le_succ_of_le h.d⟩
    · cases e
  | leave x =>
    have e : (if s.aft = none then (changed s.now (.leave x)).map fun a => (⟨s.now, some a, s.dn⟩ : St) else none) = some s' := hl
    split at e
    · obtain ⟨a, ha, rfl⟩ := omap e
      have := changed_ok h.c hd ha
      exact ⟨h.c, fun gs eg => (by cases eg; exact this), Nat.le_succ_of_le h.d⟩
    · cases e
  | settle =>
    obtain ⟨a, ha, rfl⟩ := omap (show (s.aft.map fun a => (⟨a, none, s.dn.filter fun x => decide (x ∈ nms a)⟩ : St)) = some s' from hl)
    exact ⟨(h.a a ha).1, fun gs eg => (by cases eg), Nat.le_succ_of_le (Nat.le_trans (List.length_filter_le _ _) h.d)⟩
  | copy t g => exact same _ hl
  | repair t g => exact same _ hl
  | wipe x => exact same _ hl
  | down x =>
    have e : (if (known s x && !decide (x ∈ s.dn)) = true then some (⟨s.now, s.aft, sortS (s.dn ++ [x])⟩ : St) else none) = some s' := hl
    split at e
    · cases e
      refine ⟨h.c, h.a, ?_⟩
      have := h.d
      show (sortS (s.dn ++ [x])).length ≤ _
      rw [(sortS_ok _).1.length_eq, List.length_append, List.length_singleton]; omega
    · cases e
  | up x =>
    have e : (if (known s x && decide (x ∈ s.dn)) = true then some (⟨s.now, s.aft, s.dn.filter fun y => !decide (y = x)⟩ : St) else none) = some s' := hl
    split at e
    · cases e
      exact ⟨h.c, h.a, Nat.le_succ_of_le (Nat.le_trans (List.length_filter_le _ _) h.d)⟩
    · cases e
theorem path_nil {size : Int} {hs : List Host} (hc : CrewOk size hs) : Path size ⟨hs, none, []⟩ [] [⟨hs, none, []⟩] := by
  refine ⟨rfl, rfl, fun i d h => by simp at h, fun d h => by simp at h, fun i s h => ?_⟩
  cases i with
  | zero => cases h; exact ⟨hc, fun gs e => (by cases e), Nat.zero_le _⟩
  | succ i => simp at h
theorem path_last {size : Int} {s0 : St} {ds : List Deed} {ss : List St} (P : Path size s0 ds ss) : ∃ pre s, ss = pre ++ [s] ∧ pre.length = ds.length ∧ StOk size ds.length s := by
  have hl := P.len
  rcases List.eq_nil_or_concat ss with rfl | ⟨pre, s, e⟩
  · simp at hl
  · rw [List.concat_eq_append] at e
    subst e
    rw [List.length_append, List.length_singleton] at hl
    refine ⟨pre, s, rfl, by omega, P.sok _ s ?_⟩
    rw [List.getElem?_append_right (by omega), show ds.length - pre.length = 0 by omega]
    rfl
theorem path_snoc {size : Int} {s0 s s' : St} {d : Deed} {ds : List Deed} {pre : List St} (P : Path size s0 ds (pre ++ [s])) (hl : pre.length = ds.length) (hd : DeedOk size d) (h : later s d = some s') : Path size s0 (ds ++ [d]) (pre ++ [s] ++ [s']) := by
  have hs : (pre ++ [s])[ds.length]? = some s := by
    rw [List.getElem?_append_right (by omega), show ds.length - pre.length = 0 by omega]
    rfl
  have hpl : (pre ++ [s]).length = ds.length + 1 := P.len
  refine ⟨by rw [List.length_append, hpl, List.length_append]; rfl, ?_, fun i e he => ?_, fun e he => ?_, fun i t ht => ?_⟩
  · rw [List.getElem?_append_left (by omega)]; exact P.beg
  · rcases Nat.lt_trichotomy i ds.length with hi | hi | hi
    · rw [List.getElem?_append_left hi] at he
      obtain ⟨t, t', h1, h2, h3⟩ := P.stp i e he
      exact ⟨t, t', by rw [List.getElem?_append_left (by omega)]; exact h1, by rw [List.getElem?_append_left (by omega)]; exact h2, h3⟩
    · subst hi
      rw [List.getElem?_append_right (Nat.le_refl _), Nat.sub_self] at he
      cases he
      refine ⟨s, s', by rw [List.getElem?_append_left (by omega)]; exact hs, ?_, h⟩
      rw [List.getElem?_append_right (by omega), hpl, Nat.sub_self]; rfl
    · rw [List.getElem?_append_right (by omega)] at he
      have := (List.getElem?_eq_some_iff.mp he).1
      simp at this; omega
  · rcases List.mem_append.mp he with z | z
    · exact P.dok e z
    · rw [List.mem_singleton.mp z]; exact hd
  · by_cases hi : i < (pre ++ [s]).length
    · rw [List.getElem?_append_left hi] at ht
      exact P.sok i t ht
    · rw [List.getElem?_append_right (by omega)] at ht
      have h2 := (List.getElem?_eq_some_iff.mp ht).1
      have h3 : i = ds.length + 1 := by simp at h2; omega
      subst h3
      rw [hpl, Nat.sub_self] at ht
      cases ht
      exact st_next (P.sok _ s hs) hd h
theorem kp_steps (C : Addr) : Keeps N_steps 3 (sd_steps C) (db_steps C) := by
  rintro ds M q ex hl ⟨k, g, size, r, hs, n, rfl, hn, s1, s2, hc, hK, hg, h⟩
  show db_steps C _ [some (.cel k), some (.lst (frameL size r hs)), some (.int n), none, none, none, none, none] M
  unfold db_steps
  infer_instance
  intro b hb
  infer_instance
  intro a ha
  have hba : b ≠ a := fun e => by rw [e, mset_same] at ha; cases ha
  have hbk := kg_ne hK hb
  have hK1 := kg_put (x := .ls [.lst [.lst (frameL size r hs), .non, .lst []]]) hK hb
  have hak := kg_ne hK1 ha
  have hK2 := kg_put (x := .ls []) hK1 ha
  infer_instance
  have hMa : M a = none := by rw [mset_ne (Ne.symm hba)] at ha; exact ha
  refine for_rng (n := n) (fun i env M' => ∃ (des : List Deed) (ss : List St) (w5 w6 w7 : Option D), env = [some (.cel k), some (.lst (frameL size r hs)), some (.int n), some (.cel b), some (.cel a), w5, w6, w7] ∧ M' a = some (.ls (des.map deedD)) ∧ M' b = some (.ls (ss.map (standD size r))) ∧ Path size ⟨hs, none, []⟩ des ss ∧ des.length ≤ i ∧ KeptB k M M' ∧ Kg M' k (g + 200 * i)) ?_ ?_ _ _ ⟨[], [⟨hs, none, []⟩], _, _, _, rfl, mset_same, by rw [mset_ne hba, mset_same]; rfl, path_nil hc, Nat.le_refl _, ?_, kg_le hK2 (by omega)⟩
  · rintro env M' ⟨des, ss, w5, w6, w7, rfl, hA, hB, hP, hlen, hkb, hkg⟩
    refine ⟨trivial, ?_⟩
    infer_instance
    exact h des ss a b M' hP hlen hA hB hkb (kg_le hkg (by omega))
  · rintro i env M' hi ⟨des, ss, w5, w6, w7, rfl, hA, hB, hP, hlen, hkb, hkg⟩ nx hnx
    refine ⟨trivial, ?_⟩
    obtain ⟨pre, s, rfl, hpre, hso⟩ := path_last hP
    have hso' : StOk size 24 s := st_up hso (by omega)
    infer_instance
    unfold dUn
    infer_instance
    have hlast : ∀ (x : D), atI ((pre ++ [s]).map (standD size r)) (-1) = some (standD size r s) := fun _ => by rw [List.map_append]; exact atI_last
    refine ⟨_, _, _, celL_of hB, rfl, hlast .non, ?_⟩
    infer_instance
    refine ⟨k, _, size, r, s, rfl, s1, s2, hso', hkg, by omega, fun d M2 hd hB2 hK2 => ?_⟩
    have hA2 := hB2 _ _ hA hak
    have hBB2 := hB2 _ _ hB hbk
    infer_instance
    refine ⟨_, _, _, celL_of hBB2, rfl, hlast .non, ?_⟩
    infer_instance
    refine ⟨size, r, s, d, rfl, hso', hd, fun M3 hK3 => ?_⟩
    have hA3 := hK3 _ _ hA2
    have hB3 := hK3 _ _ hBB2
    have hkb3 : KeptB k M M3 := (hkb.trans hB2).trans hK3.b
    have hkg3 : Kg M3 k (g + 200 * i + 100) := by
      obtain ⟨b1, b2, b3, b4, b5⟩ := hK2
      exact ⟨b1, b2, b3, hK3 _ _ b4, b5⟩
    cases el : later s d with
    | none =>
      show dIfS _ _ _ _ ((([some (.cel k), some (.lst (frameL size r hs)), some (.int n), some (.cel b), some (.cel a), w5, w6, w7].set 5 (some (.int (0 + (i : Nat))))).set 6 (some (deedD d))).set 7 (some .non)) M3
      infer_instance
      exact hnx _ _ ⟨des, pre ++ [s], _, _, _, rfl, hA3, hB3, hP, by omega, hkb3, kg_le hkg3 (by omega)⟩
    | some s' =>
      show dIfS _ _ _ _ ((([some (.cel k), some (.lst (frameL size r hs)), some (.int n), some (.cel b), some (.cel a), w5, w6, w7].set 5 (some (.int (0 + (i : Nat))))).set 6 (some (deedD d))).set 7 (some (standD size r s'))) M3
      have hnn : DL.isNon (standD size r s') = false := rfl
      infer_instance
      have hdl : (des.map deedD).length < sizeLine := by rw [List.length_map, sizeLine_eq]; omega
      have hsl : ((pre ++ [s]).map (standD size r)).length < sizeLine := by rw [List.length_map, List.length_append, List.length_singleton, sizeLine_eq]; omega
      refine ⟨_, _, rfl, hA3, ?_⟩
      infer_instance
      refine ⟨_, _, rfl, hA3, hdl, ?_⟩
      infer_instance
      have hB4 : ∀ x, mset M3 a x b = some (.ls ((pre ++ [s]).map (standD size r))) := fun x => by rw [mset_ne hba]; exact hB3
      refine ⟨_, _, rfl, hB4 _, ?_⟩
      infer_instance
      refine ⟨_, _, rfl, hB4 _, hsl, ?_⟩
      infer_instance
      refine hnx _ _ ⟨des ++ [d], pre ++ [s] ++ [s'], _, _, _, rfl, ?_, ?_, path_snoc hP hpre hd el, by rw [List.length_append, List.length_singleton]; omega, fun c y hcy hck => ?_, ?_⟩
      · rw [mset_ne (Ne.symm hba), mset_same, List.map_append]; rfl
      · rw [mset_same, List.map_append (l₁ := pre ++ [s])]; rfl
      · rw [mset_ne (fun e => by rw [e, hb] at hcy; cases hcy), mset_ne (fun e => by rw [e, hMa] at hcy; cases hcy)]
        exact hkb3 c y hcy hck
      · obtain ⟨b1, b2, b3, b4, b5⟩ := hkg3
        refine ⟨b1, b2, b3, by rw [mset_ne (Ne.symm hbk), mset_ne (Ne.symm hak)]; exact b4, b5.1, b5.2.1, b5.2.2.1, ?_⟩
        have := b5.2.2.2
        omega
  · intro c y hcy hck
    rw [mset_ne (fun e => by rw [e, hMa] at hcy; cases hcy), mset_ne (fun e => by rw [e, hb] at hcy; cases hcy)]
    exact hcy
end L31
set_option maxRecDepth 100000
set_option maxHeartbeats 1000000
namespace L31
open PySem PySem.Spec PyProof.Rows L2 DL R
local macro_rules | `(tactic| bv_omega) => `(tactic| first | assumption | exact mset_same)
local macro_rules | `(tactic| symm) => `(tactic| first
  | ((with_reducible show ∃ _, _ = _ ∧ _); refine ⟨_, rfl, ?_⟩)
  | ((with_reducible show _ = _ ∧ _); refine ⟨rfl, ?_⟩)
  | ((with_reducible show ∃ _ _, _ = _ ∧ _ = _ ∧ _); refine ⟨_, _, rfl, rfl, ?_⟩)
  | ((with_reducible show ∃ _ _, _ = _ ∧ _); refine ⟨_, _, rfl, ?_⟩)
  | ((with_reducible show ∃ _ _ _, _ = _ ∧ _); refine ⟨_, _, _, rfl, ?_⟩)
  | ((with_reducible show (_ ≤ _ ∧ _) ∧ _); refine ⟨by omega, ?_⟩)
  | with_reducible refine add_int ?_ | with_reducible refine sub_int ?_
  | with_reducible refine lt_int ?_ | with_reducible refine le_int ?_ | with_reducible refine gt_int ?_ | with_reducible refine ge_int ?_
  | with_reducible refine int_int ?_
  | with_reducible refine eq_int ?_ | with_reducible refine ne_int ?_
  | with_reducible refine len_tup ?_ | with_reducible refine len_lst ?_
  | ((with_reducible show rdIx (.cel _) (.int _) _ _); refine ix_cel (by bv_omega) (by rfl) ?_)
  | ((with_reducible show rdIx (.lst _) (.int _) _ _); refine ix_lst (by rfl) ?_)
  | ((with_reducible show rdIx (.tup _) (.int _) _ _); refine ix_tup (by rfl) ?_)
  | ((with_reducible show rdLen [.cel _] _ _); refine len_cel (by bv_omega) ?_)
  | ((with_reducible show rdMul (.int _) (.int _) _ _); first | refine mul_l (by decide) (by decide) ?_ | refine mul_r (by decide) (by decide) ?_ | refine mul_l (by omega) (by omega) ?_ | refine mul_r (by omega) (by omega) ?_)
  | ((with_reducible show rdDiv (.int _) (.int _) _ _); refine div_int (by first | decide | assumption | omega) (by first | decide | assumption | omega) ?_)
  | ((with_reducible show rdDivmod [.int _, .int _] _ _); refine dm_int (by first | decide | assumption | omega) (by first | decide | assumption | omega) ?_)
  | ((with_reducible show @ite _ (_ = true) _ _ _); first | refine ifYes (by first | with_reducible rfl | exact Bool.not_false | assumption) ?_ | refine ifNo (by first | with_reducible rfl | exact Bool.not_true | assumption) ?_)
  | ((with_reducible show ∃ _, _ ∧ _); refine ⟨_, celL_of (by bv_omega), ?_⟩)
  | ((with_reducible show ∃ _ _ _ _, _ ∧ _ ∧ _ ∧ _ ∧ _); refine ⟨_, _, _, _, rfl, rfl, by bv_omega, by rfl, ?_⟩)
  | ((with_reducible show (_ : Nat) ≤ sizeLine ∧ _); refine ⟨by rw [sizeLine_eq]; exact Nat.le_of_ble_eq_true rfl, ?_⟩))
local macro_rules | `(tactic| infer_instance) => `(tactic| ((repeat symm); try dsimp only))
local macro_rules | `(tactic| ac_rfl) => `(tactic| ((repeat (first | symm | ((with_reducible show rdMod (.int _) (.int _) _ _); refine mod_any (by first | decide | assumption | omega) ?_; intro _ _ _))); try dsimp only))
theorem in_ring {C : Addr} {size : Int} {r : Rule} {hs : List Host} {x : Str} {M : Mem} {q : QD} (hf : hs.length ≤ 12) (w : q (.bl (decide (x ∈ nms hs))) M) : rdInO false C (sd_Ring___contains__ C) (.str x) (ringD C size r hs) M q :=
  ⟨_, fs_ring, size, r, hs, _, rfl, hf, .inl ⟨x, rfl, _, rfl, w⟩⟩
theorem ni_ring {C : Addr} {size : Int} {r : Rule} {hs : List Host} {x : Str} {M : Mem} {q : QD} (hf : hs.length ≤ 12) (w : q (.bl (!decide (x ∈ nms hs))) M) : rdInO true C (sd_Ring___contains__ C) (.str x) (ringD C size r hs) M q :=
  ⟨_, fs_ring, size, r, hs, _, rfl, hf, .inl ⟨x, rfl, _, rfl, w⟩⟩
theorem kp_is_known (C : Addr) : Keeps N_is_known 2 (sd_is_known C) (db_is_known C) := by
  rintro ds M q ex hl ⟨size, r, s, x, rfl, hs, h⟩
  have hal := onms_len hs
  show db_is_known C _ [some (.tup [ringD C size r s.now, optD C size r s.aft, strsT s.dn]), some (.str x), none, none, none] M
  unfold db_is_known
  unfold known at h
  cases ea : s.aft with
  | none =>
    rw [ea] at h
    rw [show optD C size r none = .non from rfl]
    infer_instance
    refine in_ring hs.c.few ?_
    infer_instance
    refine ifD (fun e => ?_) (fun e => ?_)
    · infer_instance
      rw [decide_eq_true e] at h
      exact h
    · infer_instance
      rw [decide_eq_false e] at h
      exact h
  | some a =>
    have hac := hal a ea
    rw [ea] at h
    rw [show optD C size r (some a) = ringD C size r a from rfl]
    infer_instance
    refine in_ring hs.c.few ?_
    infer_instance
    refine ifD (fun e => ?_) (fun e => ?_)
    · infer_instance
      rw [decide_eq_true e, Bool.true_or] at h
      exact h
    · infer_instance
      refine in_ring hac ?_
      rw [decide_eq_false e, Bool.false_or] at h
      exact h
theorem kp_can_give (C : Addr) : Keeps N_can_give 3 (sd_can_give C) (db_can_give C) := by
  rintro ds M q ex hl ⟨size, r, s, t, g, rfl, hs, h⟩
  show db_can_give C _ [some (.tup [ringD C size r s.now, optD C size r s.aft, strsT s.dn]), some (.str t), some (.str g), none, none, none] M
  unfold db_can_give
  unfold gives at h
  infer_instance
  refine in_ring hs.c.few ?_
  infer_instance
  refine ifD (fun e1 => ?_) (fun e1 => ?_)
  · rw [decide_eq_true e1, Bool.true_and] at h
    infer_instance
    refine ne_strA ?_
    infer_instance
    refine ifB (fun e2 => ?_) (fun e2 => ?_)
    · rw [e2, Bool.true_and] at h
      infer_instance
      refine ni_str rfl ?_
      infer_instance
      refine ifB (fun e3 => ?_) (fun e3 => ?_)
      · rw [e3, Bool.true_and] at h
        infer_instance
        exact ni_str rfl h
      · rw [e3] at h
        infer_instance
        exact h
    · rw [e2] at h
      infer_instance
      exact h
  · rw [decide_eq_false e1] at h
    infer_instance
    exact h
theorem get_if {α : Type} {b : Bool} {x y : α} (h : (if b = true then some x else none) = some y) : b = true ∧ x = y := by
  cases b with
  | false => cases h
  | true => cases h; exact ⟨rfl, rfl⟩
theorem kp_behind_wipe (C : Addr) : Keeps N_behind_wipe 2 (sd_behind_wipe C) (db_behind_wipe C) := by
  rintro ds M q ex hl ⟨size, r, s, s', x, rfl, F, h⟩
  obtain ⟨hk, rfl⟩ := get_if (show (if known s x = true then some s else none) = some s' from F.l)
  show db_behind_wipe C _ [some (stateD C size r s), some (.tup [.str "wipe", .str x])] M
  unfold db_behind_wipe
  infer_instance
  refine ⟨size, r, s, x, rfl, F.so, ?_⟩
  rw [hk]
  infer_instance
  exact h M (Kept.refl M)
theorem kp_behind_up (C : Addr) : Keeps N_behind_up 2 (sd_behind_up C) (db_behind_up C) := by
  rintro ds M q ex hl ⟨size, r, s, s', x, rfl, F, h⟩
  obtain ⟨hk, rfl⟩ := get_if (show (if (known s x && decide (x ∈ s.dn)) = true then some (⟨s.now, s.aft, s.dn.filter fun y => !decide (y = x)⟩ : St) else none) = some s' from F.l)
  rw [Bool.and_eq_true] at hk
  have hdn := F.so.d
  show db_behind_up C _ [some (.tup [ringD C size r s.now, optD C size r s.aft, strsT s.dn]), some (.tup [.str "up", .str x]), none, none, none, none] M
  unfold db_behind_up
  infer_instance
  refine ⟨size, r, s, x, rfl, F.so, ?_⟩
  rw [hk.1]
  infer_instance
  refine ni_str rfl ?_
  rw [hk.2]
  infer_instance
  intro c hcn
  refine lc_dn s.dn (fun y => !decide (y = x)) hcn (by omega) (fun _ => rfl) (fun y hy acc hz nx h1 h2 => ?_) ?_
  · infer_instance
    refine ne_strA ?_
    infer_instance
    refine ifB (fun e => ?_) (fun e => ?_)
    · infer_instance
      exact acc_put hz (h1 e)
    · exact h2 e
  infer_instance
  refine ⟨_, _, rfl, rfl, ?_⟩
  infer_instance
  exact h M (Kept.refl M)
theorem kp_behind_down (C : Addr) : Keeps N_behind_down 2 (sd_behind_down C) (db_behind_down C) := by
  rintro ds M q ex hl ⟨size, r, s, s', x, rfl, F, h⟩
  obtain ⟨hk, rfl⟩ := get_if (show (if (known s x && !decide (x ∈ s.dn)) = true then some (⟨s.now, s.aft, sortS (s.dn ++ [x])⟩ : St) else none) = some s' from F.l)
  rw [Bool.and_eq_true] at hk
  have hdn := F.so.d
  have hnot : decide (x ∈ s.dn) = false := by simpa using hk.2
  show db_behind_down C _ [some (.tup [ringD C size r s.now, optD C size r s.aft, strsT s.dn]), some (.tup [.str "down", .str x]), none, none, none] M
  unfold db_behind_down
  infer_instance
  refine ⟨size, r, s, x, rfl, F.so, ?_⟩
  rw [hk.1]
  infer_instance
  refine DL.in_str rfl ?_
  rw [hnot]
  infer_instance
  refine slf_tup (n := 1) ?_
  infer_instance
  refine add_tup (by rw [List.length_map, sizeLine_eq]; simp only [List.length_drop, List.length_cons, List.length_nil]; omega) ?_
  infer_instance
  refine ⟨_, _, s.dn ++ [x], rfl, rfl, by rw [show (s.dn.map D.str ++ List.drop 1 [D.str "down", D.str x]) = (s.dn ++ [x]).map D.str by rw [List.map_append]; rfl]; exact DL.strs_map _, by rw [List.length_append, List.length_singleton]; omega, fun ys hpm hso => ?_⟩
  rw [sortS_of hpm hso]
  infer_instance
  refine ⟨_, _, rfl, rfl, ?_⟩
  infer_instance
  exact h M (Kept.refl M)
theorem kp_behind_settle (C : Addr) : Keeps N_behind_settle 2 (sd_behind_settle C) (db_behind_settle C) := by
  rintro ds M q ex hl ⟨size, r, s, s', rfl, F, h⟩
  obtain ⟨a, ha, rfl⟩ := omap (show (s.aft.map fun a => (⟨a, none, s.dn.filter fun x => decide (x ∈ nms a)⟩ : St)) = some s' from F.l)
  have hdn := F.so.d
  have hac := onms_len F.so a ha
  show db_behind_settle C _ [some (.tup [ringD C size r s.now, optD C size r s.aft, strsT s.dn]), some (.tup [.str "settle"]), none, none, none, none] M
  unfold db_behind_settle
  rw [ha, show optD C size r (some a) = ringD C size r a from rfl]
  have hnn : DL.isNon (ringD C size r a) = false := rfl
  infer_instance
  intro c hcn
  refine lc_dn s.dn (fun x => decide (x ∈ nms a)) hcn (by omega) (fun _ => rfl) (fun y hy acc hz nx h1 h2 => ?_) ?_
  · infer_instance
    refine in_ring hac ?_
    infer_instance
    refine ifB (fun e => ?_) (fun e => ?_)
    · infer_instance
      exact acc_put hz (h1 e)
    · exact h2 e
  infer_instance
  refine ⟨_, _, rfl, rfl, ?_⟩
  infer_instance
  exact h M (Kept.refl M)
theorem kp_behind_copy (C : Addr) : Keeps N_behind_copy 2 (sd_behind_copy C) (db_behind_copy C) := by
  rintro ds M q ex hl ⟨size, r, s, s', t, g, rfl, F, h⟩
  obtain ⟨hk, rfl⟩ := get_if (show (if (decide (t ∈ onms s.aft) && gives s t g) = true then some s else none) = some s' from F.l)
  rw [Bool.and_eq_true] at hk
  have hal := onms_len F.so
  show db_behind_copy C _ [some (stateD C size r s), some (.tup [.str "copy", .str t, .str g]), none, none, none, none] M
  unfold db_behind_copy
  cases ea : s.aft with
  | none => rw [ea] at hk; simp [onms] at hk
  | some a =>
    have hac := hal a ea
    rw [ea] at hk
    have hst : stateD C size r s = .tup [ringD C size r s.now, ringD C size r a, strsT s.dn] := by unfold stateD; rw [ea]; rfl
    have hnn : DL.isNon (ringD C size r a) = false := rfl
    rw [hst]
    infer_instance
    refine ni_ring hac ?_
    rw [show decide (t ∈ nms a) = true from hk.1]
    infer_instance
    refine ⟨size, r, s, t, g, by rw [hst], F.so, ?_⟩
    rw [hk.2]
    infer_instance
    rw [← hst]
    exact h M (Kept.refl M)
theorem kp_behind_repair (C : Addr) : Keeps N_behind_repair 2 (sd_behind_repair C) (db_behind_repair C) := by
  rintro ds M q ex hl ⟨size, r, s, s', t, g, rfl, F, h⟩
  obtain ⟨hk, rfl⟩ := get_if (show (if (decide (t ∈ nms s.now) && gives s t g) = true then some s else none) = some s' from F.l)
  rw [Bool.and_eq_true] at hk
  have hst : stateD C size r s = .tup [ringD C size r s.now, optD C size r s.aft, strsT s.dn] := rfl
  show db_behind_repair C _ [some (stateD C size r s), some (.tup [.str "repair", .str t, .str g]), none, none, none] M
  unfold db_behind_repair
  rw [hst]
  infer_instance
  refine ni_ring F.so.c.few ?_
  rw [hk.1]
  infer_instance
  refine ⟨size, r, s, t, g, rfl, F.so, ?_⟩
  rw [hk.2]
  infer_instance
  exact h M (Kept.refl M)
theorem kp_behind_join (C : Addr) : Keeps N_behind_join 2 (sd_behind_join C) (db_behind_join C) := by
  rintro ds M q ex hl ⟨size, r, s, s', x, b, ms, rfl, F, h⟩
  have e : (if s.aft = none then (changed s.now (.join x b ms)).map fun a => (⟨s.now, some a, s.dn⟩ : St) else none) = some s' := F.l
  split at e
  · rename_i ea
    obtain ⟨a, ha, rfl⟩ := omap e
    have hca := changed_ok F.so.c F.dk ha
    have hd := F.dk
    show db_behind_join C _ [some (.tup [ringD C size r s.now, optD C size r s.aft, strsT s.dn]), some (.tup [.str "join", .str x, .str b, intsT ms]), none, none, none, none, none, none, none] M
    unfold db_behind_join
    rw [ea, show optD C size r none = .non from rfl]
    infer_instance
    have h0 := h
    have e' : (if (decide (x ∈ nms s.now) || (decide (s.now.length = 12) || !(ms.all fun m => !decide (m ∈ s.now.flatMap (·.marks))))) = true then none else some (s.now ++ [⟨x, b, ms⟩])) = some a := ha
    split at e'
    · cases e'
    rename_i hcond
    cases e'
    have hlen : s.now.length ≤ 11 := by
      have := hca.1.few
      rw [List.length_append, List.length_singleton] at this
      omega
    have hnx : NextOk size s.now ⟨x, b, ms⟩ := by
      have := hca.1.each s.now.length ⟨x, b, ms⟩ (by rw [List.getElem?_append_right (Nat.le_refl _), Nat.sub_self]; rfl)
      rwa [List.take_left] at this
    refine ⟨_, fs_ring, lk_joined, ?_⟩
    infer_instance
    refine ⟨size, r, s.now, x, b, ms, rfl, F.f.s0, F.f.s1, F.f.r, F.so.c, hlen, hnx, fun M' hK => ?_⟩
    infer_instance
    exact h M' hK
  · cases e
theorem kp_behind_leave (C : Addr) : Keeps N_behind_leave 2 (sd_behind_leave C) (db_behind_leave C) := by
  rintro ds M q ex hl ⟨size, r, s, s', x, rfl, F, h⟩
  have e : (if s.aft = none then (changed s.now (.leave x)).map fun a => (⟨s.now, some a, s.dn⟩ : St) else none) = some s' := F.l
  split at e
  · rename_i ea
    obtain ⟨a, ha, rfl⟩ := omap e
    obtain ⟨hk, rfl⟩ := get_if (show (if (decide (x ∈ nms s.now) && decide (2 ≤ s.now.length)) = true then some (s.now.filter fun h => !decide (h.name = x)) else none) = some a from ha)
    rw [Bool.and_eq_true] at hk
    show db_behind_leave C _ [some (.tup [ringD C size r s.now, optD C size r s.aft, strsT s.dn]), some (.tup [.str "leave", .str x]), none, none, none] M
    unfold db_behind_leave
    rw [ea, show optD C size r none = .non from rfl]
    infer_instance
    refine ⟨_, fs_ring, lk_left, ?_⟩
    infer_instance
    refine ⟨size, r, s.now, x, rfl, F.f.s0, F.f.s1, F.f.r, F.so.c, of_decide_eq_true hk.1, of_decide_eq_true hk.2, fun M' hK => ?_⟩
    infer_instance
    exact h M' hK
  · cases e
theorem kp_behind (C : Addr) : Keeps N_behind 2 (sd_behind C) (db_behind C) := by
  rintro ds M q ex hl ⟨size, r, s, s', d, rfl, F, h⟩
  show db_behind C _ [some (stateD C size r s), some (deedD d), none] M
  unfold db_behind
  infer_instance
  refine ⟨d, rfl, ?_⟩
  infer_instance
  cases d with
  | join x b ms =>
    rw [show deedD (.join x b ms) = .tup [.str "join", .str x, .str b, intsT ms] from rfl]
    infer_instance
    intro f
    refine ⟨rfl, ?_⟩
    infer_instance
    exact ⟨size, r, s, s', x, b, ms, rfl, F, h⟩
  | leave x =>
    rw [show deedD (.leave x) = .tup [.str "leave", .str x] from rfl]
    infer_instance
    intro f
    refine ⟨rfl, ?_⟩
    infer_instance
    exact ⟨size, r, s, s', x, rfl, F, h⟩
  | copy t g =>
    rw [show deedD (.copy t g) = .tup [.str "copy", .str t, .str g] from rfl]
    infer_instance
    intro f
    refine ⟨rfl, ?_⟩
    infer_instance
    exact ⟨size, r, s, s', t, g, rfl, F, h⟩
  | settle =>
    rw [show deedD (.settle) = .tup [.str "settle"] from rfl]
    infer_instance
    intro f
    refine ⟨rfl, ?_⟩
    infer_instance
    exact ⟨size, r, s, s', rfl, F, h⟩
  | down x =>
    rw [show deedD (.down x) = .tup [.str "down", .str x] from rfl]
    infer_instance
    intro f
    refine ⟨rfl, ?_⟩
    infer_instance
    exact ⟨size, r, s, s', x, rfl, F, h⟩
  | up x =>
    rw [show deedD (.up x) = .tup [.str "up", .str x] from rfl]
    infer_instance
    intro f
    refine ⟨rfl, ?_⟩
    infer_instance
    exact ⟨size, r, s, s', x, rfl, F, h⟩
  | wipe x =>
    rw [show deedD (.wipe x) = .tup [.str "wipe", .str x] from rfl]
    infer_instance
    intro f
    refine ⟨rfl, ?_⟩
    infer_instance
    exact ⟨size, r, s, s', x, rfl, F, h⟩
  | repair t g =>
    rw [show deedD (.repair t g) = .tup [.str "repair", .str t, .str g] from rfl]
    infer_instance
    intro f
    refine ⟨rfl, ?_⟩
    infer_instance
    exact ⟨size, r, s, s', t, g, rfl, F, h⟩
end L31
set_option maxRecDepth 100000
set_option maxHeartbeats 1000000
namespace L31
open PySem PySem.Spec PyProof.Rows L2 DL R
local macro_rules | `(tactic| bv_omega) => `(tactic| first | assumption | exact mset_same)
local macro_rules | `(tactic| symm) => `(tactic| first
  | ((with_reducible show ∃ _, _ = _ ∧ _); refine ⟨_, rfl, ?_⟩)
  | ((with_reducible show _ = _ ∧ _); refine ⟨rfl, ?_⟩)
  | ((with_reducible show ∃ _ _, _ = _ ∧ _ = _ ∧ _); refine ⟨_, _, rfl, rfl, ?_⟩)
  | ((with_reducible show ∃ _ _, _ = _ ∧ _); refine ⟨_, _, rfl, ?_⟩)
  | ((with_reducible show ∃ _ _ _, _ = _ ∧ _); refine ⟨_, _, _, rfl, ?_⟩)
  | ((with_reducible show (_ ≤ _ ∧ _) ∧ _); refine ⟨by omega, ?_⟩)
  | with_reducible refine add_int ?_ | with_reducible refine sub_int ?_
  | with_reducible refine lt_int ?_ | with_reducible refine le_int ?_ | with_reducible refine gt_int ?_ | with_reducible refine ge_int ?_
  | with_reducible refine int_int ?_
  | with_reducible refine eq_int ?_ | with_reducible refine ne_int ?_
  | with_reducible refine len_tup ?_ | with_reducible refine len_lst ?_
  | ((with_reducible show rdIx (.cel _) (.int _) _ _); refine ix_cel (by bv_omega) (by rfl) ?_)
  | ((with_reducible show rdIx (.lst _) (.int _) _ _); refine ix_lst (by rfl) ?_)
  | ((with_reducible show rdIx (.tup _) (.int _) _ _); refine ix_tup (by rfl) ?_)
  | ((with_reducible show rdLen [.cel _] _ _); refine len_cel (by bv_omega) ?_)
  | ((with_reducible show rdMul (.int _) (.int _) _ _); first | refine mul_l (by decide) (by decide) ?_ | refine mul_r (by decide) (by decide) ?_ | refine mul_l (by omega) (by omega) ?_ | refine mul_r (by omega) (by omega) ?_)
  | ((with_reducible show rdDiv (.int _) (.int _) _ _); refine div_int (by first | decide | assumption | omega) (by first | decide | assumption | omega) ?_)
  | ((with_reducible show rdDivmod [.int _, .int _] _ _); refine dm_int (by first | decide | assumption | omega) (by first | decide | assumption | omega) ?_)
  | ((with_reducible show @ite _ (_ = true) _ _ _); first | refine ifYes (by first | with_reducible rfl | exact Bool.not_false | assumption) ?_ | refine ifNo (by first | with_reducible rfl | exact Bool.not_true | assumption) ?_)
  | ((with_reducible show ∃ _, _ ∧ _); refine ⟨_, celL_of (by bv_omega), ?_⟩)
  | ((with_reducible show ∃ _ _ _ _, _ ∧ _ ∧ _ ∧ _ ∧ _); refine ⟨_, _, _, _, rfl, rfl, by bv_omega, by rfl, ?_⟩)
  | ((with_reducible show (_ : Nat) ≤ sizeLine ∧ _); refine ⟨by rw [sizeLine_eq]; exact Nat.le_of_ble_eq_true rfl, ?_⟩))
local macro_rules | `(tactic| infer_instance) => `(tactic| ((repeat symm); try dsimp only))
local macro_rules | `(tactic| ac_rfl) => `(tactic| ((repeat (first | symm | ((with_reducible show rdMod (.int _) (.int _) _ _); refine mod_any (by first | decide | assumption | omega) ?_; intro _ _ _))); try dsimp only))
theorem kp_states_of (C : Addr) : Keeps N_states_of 2 (sd_states_of C) (db_states_of C) := by
  rintro ds M q ex hl ⟨size, r, hs, des, ss, rfl, P, h⟩
  have hsl := P.p.len
  have hn := P.n
  show db_states_of C _ [some (ringD C size r hs), some (.tup (des.map deedD)), none, none, none, none] M
  unfold db_states_of
  infer_instance
  intro c hc
  infer_instance
  have hbeg : (ss.take 1).map (stateD C size r) = [stateD C size r ⟨hs, none, []⟩] := by
    have := P.p.beg
    cases ss with
    | nil => cases this
    | cons a l => cases this; rfl
  refine for_lst (fun i env M' => ∃ w3 w4 w5 : Option D, env = [some (ringD C size r hs), some (.tup (des.map deedD)), some (.cel c), w3, w4, w5] ∧ M' c = some (.ls ((ss.take (i + 1)).map (stateD C size r))) ∧ Kept M M') ?_ ?_ _ _ ⟨_, _, _, rfl, by rw [hbeg]; exact mset_same, Kept.new hc⟩
  · rintro env M' ⟨w3, w4, w5, rfl, hC, hK⟩
    refine ⟨rfl, ?_⟩
    have hel : (enumD (des.map deedD)).length = des.length := by rw [enumD_len, List.length_map]
    rw [hel, List.take_of_length_le (by omega)] at hC
    infer_instance
    refine ⟨_, _, rfl, celL_of hC, ?_⟩
    infer_instance
    exact h M' hK
  · rintro i x env M' hx ⟨w3, w4, w5, rfl, hC, hK⟩ nx hnx
    refine ⟨rfl, ?_⟩
    obtain ⟨y, hy, rfl⟩ := enumD_get hx
    rw [List.getElem?_map] at hy
    obtain ⟨d, hd, rfl⟩ := omap hy
    have hi := (List.getElem?_eq_some_iff.mp hd).1
    obtain ⟨s, s', h1, h2, h3⟩ := P.p.stp i d hd
    have hso : StOk size 24 s := st_up (P.p.sok i s h1) (by omega)
    infer_instance
    refine ix_cel hC (DL.atI_nat (n := i) (by rw [List.getElem?_map, List.getElem?_take_of_lt (by omega), h1]; rfl)) ?_
    infer_instance
    refine ⟨size, r, s, s', d, rfl, ⟨P.f, hso, P.p.dok d (List.mem_of_getElem? hd), h3⟩, fun M2 hK2 => ?_⟩
    have hC2 := hK2 _ _ hC
    have hnn : DL.isNon (stateD C size r s') = false := rfl
    infer_instance
    rw [decide_eq_false (show ¬ ((i : Int) = 24) by omega)]
    infer_instance
    refine ⟨_, _, rfl, hC2, ?_⟩
    infer_instance
    refine ⟨_, _, rfl, hC2, by rw [List.length_map, List.length_take, sizeLine_eq]; omega, hnx _ _ ⟨_, _, _, rfl, ?_, fun a y ha => ?_⟩⟩
    · rw [mset_same, List.take_add_one (i := i + 1), h2, List.map_append]; rfl
    · rw [mset_ne (fun e => by rw [e, hc] at ha; cases ha)]
      exact hK2 _ _ (hK _ _ ha)
theorem fs_plan {C P : Addr} {size : Int} {r : Rule} {hs : List Host} {des : List Deed} {ss : List St} {M : Mem} : fsOf M P (planD C P size r hs des ss) = some (planF C size r hs des ss) := by
  show (if P = P then some _ else none) = _
  rw [if_pos rfl]
  rfl
theorem fld_plan {C P : Addr} {size : Int} {r : Rule} {hs : List Host} {des : List Deed} {ss : List St} {M : Mem} {B : D → Prop} {f : Str} {v : D} (h : (planF C size r hs des ss).lookup f = some v) (w : B v) : ∃ fs v, fsOf M P (planD C P size r hs des ss) = some fs ∧ fs.lookup f = some v ∧ B v := ⟨_, v, fs_plan, h, w⟩
theorem lkp_states {C : Addr} {size : Int} {r : Rule} {hs : List Host} {des : List Deed} {ss : List St} : (planF C size r hs des ss).lookup ("_states" : Str) = some (statesT C size r ss) := by rfl
theorem lkp_ring {C : Addr} {size : Int} {r : Rule} {hs : List Host} {des : List Deed} {ss : List St} : (planF C size r hs des ss).lookup ("_ring" : Str) = some (ringD C size r hs) := by rfl
theorem lkp_steps {C : Addr} {size : Int} {r : Rule} {hs : List Host} {des : List Deed} {ss : List St} : (planF C size r hs des ss).lookup ("_steps" : Str) = some (.tup (des.map deedD)) := by rfl
theorem lkp_none {C : Addr} {size : Int} {r : Rule} {hs : List Host} {des : List Deed} {ss : List St} {f : Str} (h1 : (f == ("_states" : Str)) = false) (h2 : (f == ("_ring" : Str)) = false) (h3 : (f == ("_steps" : Str)) = false) : (planF C size r hs des ss).lookup f = none := by
  unfold planF
  simp [List.lookup, h1, h2, h3]
theorem kp_Plan___init__ (C P : Addr) : Keeps N_Plan___init__ 3 (sd_Plan___init__ C P) (db_Plan___init__ C P) := by
  rintro ds M q ex hl ⟨c, size, r, hs, des, ss, rfl, hM, PO, h⟩
  show db_Plan___init__ C P _ [some (.cel c), some (ringD C size r hs), some (deedsT des)] M
  unfold db_Plan___init__
  infer_instance
  refine ⟨size, r, hs, rfl, ?_⟩
  infer_instance
  refine ⟨size, r, hs, des, ss, rfl, PO, fun M2 hK2 => ?_⟩
  have hM2 := hK2 _ _ hM
  infer_instance
  have lt1 : (putD ("_states" : Str) (statesT C size r ss) []).length < 1000 := by
    rw [show (putD ("_states" : Str) (statesT C size r ss) []).length = 1 from rfl]; decide
  have lt2 : (putD ("_ring" : Str) (ringD C size r hs) (putD ("_states" : Str) (statesT C size r ss) [])).length < 1000 := by
    rw [show (putD ("_ring" : Str) (ringD C size r hs) (putD ("_states" : Str) (statesT C size r ss) [])).length = 2 from rfl]; decide
  refine ⟨c, [], rfl, hM2, by decide, ?_⟩
  infer_instance
  refine ⟨c, _, rfl, mset_same, lt1, ?_⟩
  infer_instance
  refine ⟨c, _, rfl, mset_same, lt2, ?_⟩
  infer_instance
  refine h _ (by rw [mset_same]; rfl) fun a x ha hne => ?_
  rw [mset_ne hne, mset_ne hne, mset_ne hne]
  exact hK2 _ _ ha
theorem kp_Plan__state (C P : Addr) : Keeps N_Plan__state 2 (sd_Plan__state C P) (db_Plan__state C P) := by
  rintro ds M q ex hl ⟨size, r, hs, des, ss, i, s, rfl, PO, hi, h⟩
  have hsl := PO.p.len
  have hil := (List.getElem?_eq_some_iff.mp hi).1
  show db_Plan__state C P _ [some (planD C P size r hs des ss), some (.int i)] M
  unfold db_Plan__state
  infer_instance
  refine fld_plan lkp_steps ?_
  infer_instance
  refine ⟨(i : Nat), 0, _, rfl, ?_⟩
  rw [decide_eq_true (show (0 : Int) ≤ (i : Nat) ∧ ((i : Nat) : Int) ≤ _ by rw [List.length_map]; omega)]
  infer_instance
  refine fld_plan lkp_states ?_
  unfold statesT
  infer_instance
  refine DL.ix_tup (DL.atI_nat (n := i) (by rw [List.getElem?_map, hi]; rfl)) ?_
  exact h
theorem kp_Plan_counting (C P : Addr) : Keeps N_Plan_counting 2 (sd_Plan_counting C P) (db_Plan_counting C P) := by
  rintro ds M q ex hl ⟨size, r, hs, des, ss, i, s, rfl, PO, hi, h⟩
  show db_Plan_counting C P _ [some (planD C P size r hs des ss), some (.int i)] M
  unfold db_Plan_counting
  infer_instance
  refine ⟨_, fs_plan, lkp_none (by decide) (by decide) (by decide), ?_⟩
  infer_instance
  refine ⟨size, r, hs, des, ss, i, s, rfl, PO, hi, ?_⟩
  unfold stateD
  infer_instance
  exact h
theorem path_st {size : Int} {s0 s : St} {ds : List Deed} {ss : List St} {i : Nat} (P : Path size s0 ds ss) (h : ss[i]? = some s) : StOk size i s := P.sok i s h
theorem keepers_F {size p : Int} {r : Rule} {hs : List Host} {ns : List Str} (hc : CrewOk size hs) (w : WalkOf size p hs ns) : keepersOf r hs ns = keepF size r hs p := by
  rw [walk_eq hc w]; rfl
theorem kp_Plan_keepers (C P : Addr) : Keeps N_Plan_keepers 3 (sd_Plan_keepers C P) (db_Plan_keepers C P) := by
  rintro ds M q ex hl ⟨size, r, hs, des, ss, i, s, p, rfl, PO, hi, p0, p1, h⟩
  have hso := path_st PO.p hi
  show db_Plan_keepers C P _ [some (planD C P size r hs des ss), some (.int p), some (.int i), none] M
  unfold db_Plan_keepers
  infer_instance
  refine fld_plan lkp_ring ?_
  infer_instance
  refine ⟨size, r, hs, p, rfl, p0, p1, ?_⟩
  infer_instance
  refine ⟨_, fs_plan, lkp_none (by decide) (by decide) (by decide), ?_⟩
  infer_instance
  refine ⟨size, r, hs, des, ss, i, s, rfl, PO, hi, ?_⟩
  infer_instance
  refine ⟨_, fs_ring, lk_keepers, ?_⟩
  infer_instance
  refine ⟨size, r, s.now, p, rfl, hso.c, PO.f.r, p0, p1, fun ns M' hw hK => ?_⟩
  rw [keepers_F hso.c hw]
  exact h M' hK
theorem kp_Plan_pendings (C P : Addr) : Keeps N_Plan_pendings 3 (sd_Plan_pendings C P) (db_Plan_pendings C P) := by
  rintro ds M q ex hl ⟨size, r, hs, des, ss, i, s, p, rfl, PO, hi, p0, p1, h⟩
  have hso := path_st PO.p hi
  show db_Plan_pendings C P _ [some (planD C P size r hs des ss), some (.int p), some (.int i), none, none, none, none, none] M
  unfold db_Plan_pendings
  infer_instance
  refine fld_plan lkp_ring ?_
  infer_instance
  refine ⟨size, r, hs, p, rfl, p0, p1, ?_⟩
  infer_instance
  refine ⟨_, fs_plan, lkp_none (by decide) (by decide) (by decide), ?_⟩
  infer_instance
  refine ⟨size, r, hs, des, ss, i, s, rfl, PO, hi, ?_⟩
  unfold stateD
  cases ea : s.aft with
  | none =>
    rw [show optD C size r none = .non from rfl]
    infer_instance
    have h' := h M (Kept.refl M)
    unfold pendF at h'
    rw [ea] at h'
    exact h'
  | some a =>
    have ha := (hso.a a ea).1
    have hnn : DL.isNon (ringD C size r a) = false := rfl
    rw [show optD C size r (some a) = ringD C size r a from rfl]
    infer_instance
    refine ⟨_, fs_ring, lk_keepers, ?_⟩
    infer_instance
    refine ⟨size, r, s.now, p, rfl, hso.c, PO.f.r, p0, p1, fun ns M' hw hK => ?_⟩
    rw [keepers_F hso.c hw]
    infer_instance
    refine ⟨_, fs_ring, lk_keepers, ?_⟩
    infer_instance
    refine ⟨size, r, a, p, rfl, ha, PO.f.r, p0, p1, fun ns2 M2 hw2 hK2 => ?_⟩
    rw [keepers_F ha hw2]
    infer_instance
    intro c hcn
    have hkl := keepF_len (size := size) (p := p) (hs := a) PO.f.r
    refine lc_dn (keepF size r a p) (fun x => !decide (x ∈ keepF size r s.now p)) hcn (by omega) (fun _ => rfl) (fun y hy acc hz nx h1 h2 => ?_) ?_
    · infer_instance
      refine ni_str rfl ?_
      infer_instance
      refine ifB (fun e => ?_) (fun e => ?_)
      · infer_instance
        exact acc_put hz (h1 e)
      · exact h2 e
    infer_instance
    refine ⟨_, _, rfl, rfl, ?_⟩
    infer_instance
    have h' := h M2 (hK.trans hK2)
    unfold pendF at h'
    rw [ea] at h'
    exact h'
end L31
set_option maxRecDepth 100000
set_option maxHeartbeats 1000000
namespace L31
open PySem PySem.Spec PyProof.Rows L2 DL R
local macro_rules | `(tactic| bv_omega) => `(tactic| first | assumption | exact mset_same)
local macro_rules | `(tactic| symm) => `(tactic| first
  | ((with_reducible show ∃ _, _ = _ ∧ _); refine ⟨_, rfl, ?_⟩)
  | ((with_reducible show _ = _ ∧ _); refine ⟨rfl, ?_⟩)
  | ((with_reducible show ∃ _ _, _ = _ ∧ _ = _ ∧ _); refine ⟨_, _, rfl, rfl, ?_⟩)
  | ((with_reducible show ∃ _ _, _ = _ ∧ _); refine ⟨_, _, rfl, ?_⟩)
  | ((with_reducible show ∃ _ _ _, _ = _ ∧ _); refine ⟨_, _, _, rfl, ?_⟩)
  | ((with_reducible show (_ ≤ _ ∧ _) ∧ _); refine ⟨by omega, ?_⟩)
  | with_reducible refine add_int ?_ | with_reducible refine sub_int ?_
  | with_reducible refine lt_int ?_ | with_reducible refine le_int ?_ | with_reducible refine gt_int ?_ | with_reducible refine ge_int ?_
  | with_reducible refine int_int ?_
  | with_reducible refine eq_int ?_ | with_reducible refine ne_int ?_
  | with_reducible refine len_tup ?_ | with_reducible refine len_lst ?_
  | ((with_reducible show rdIx (.cel _) (.int _) _ _); refine ix_cel (by bv_omega) (by rfl) ?_)
  | ((with_reducible show rdIx (.lst _) (.int _) _ _); refine ix_lst (by rfl) ?_)
  | ((with_reducible show rdIx (.tup _) (.int _) _ _); refine ix_tup (by rfl) ?_)
  | ((with_reducible show rdLen [.cel _] _ _); refine len_cel (by bv_omega) ?_)
  | ((with_reducible show rdMul (.int _) (.int _) _ _); first | refine mul_l (by decide) (by decide) ?_ | refine mul_r (by decide) (by decide) ?_ | refine mul_l (by omega) (by omega) ?_ | refine mul_r (by omega) (by omega) ?_)
  | ((with_reducible show rdDiv (.int _) (.int _) _ _); refine div_int (by first | decide | assumption | omega) (by first | decide | assumption | omega) ?_)
  | ((with_reducible show rdDivmod [.int _, .int _] _ _); refine dm_int (by first | decide | assumption | omega) (by first | decide | assumption | omega) ?_)
  | ((with_reducible show @ite _ (_ = true) _ _ _); first | refine ifYes (by first | with_reducible rfl | exact Bool.not_false | assumption) ?_ | refine ifNo (by first | with_reducible rfl | exact Bool.not_true | assumption) ?_)
  | ((with_reducible show ∃ _, _ ∧ _); refine ⟨_, celL_of (by bv_omega), ?_⟩)
  | ((with_reducible show ∃ _ _ _ _, _ ∧ _ ∧ _ ∧ _ ∧ _); refine ⟨_, _, _, _, rfl, rfl, by bv_omega, by rfl, ?_⟩)
  | ((with_reducible show (_ : Nat) ≤ sizeLine ∧ _); refine ⟨by rw [sizeLine_eq]; exact Nat.le_of_ble_eq_true rfl, ?_⟩))
local macro_rules | `(tactic| infer_instance) => `(tactic| ((repeat symm); try dsimp only))
local macro_rules | `(tactic| ac_rfl) => `(tactic| ((repeat (first | symm | ((with_reducible show rdMod (.int _) (.int _) _ _); refine mod_any (by first | decide | assumption | omega) ?_; intro _ _ _))); try dsimp only))
theorem near_one {size p : Int} {r : Rule} {hs gs : List Host} (hr : RuleOk r) (hc : CrewOk size hs) (hg : CrewOk size gs) (N : Near hs gs) : ((keepF size r gs p).filter fun x => !decide (x ∈ keepF size r hs p)).length ≤ 1 := by
  rcases N with ⟨o, rfl, hn⟩ | ⟨o, ho, h2, rfl⟩
  · rcases (join_keep (p := p) hr hc hg hn).1 with ⟨e, _⟩ | ⟨e, _⟩
    · rw [e]; exact Nat.zero_le _
    · rw [e]; exact Nat.le_refl _
  · have hnd := crew_nodup hc
    have hn : ∀ h ∈ hs.filter (fun h => !decide (h.name = o.name)), h.name ≠ o.name := fun h hh e => by
      have := (List.mem_filter.mp hh).2
      rw [e] at this
      simp at this
    have hp : ((hs.filter fun h => !decide (h.name = o.name)) ++ [o]).Perm hs := by
      have hsn : hs.Nodup := (List.pairwise_map.mp hnd).imp fun h e => h (by rw [e])
      refine (List.perm_ext_iff_of_nodup ?_ hsn).mpr fun y => ?_
      · rw [List.nodup_append]
        refine ⟨List.Pairwise.sublist List.filter_sublist hsn, by simp, fun a ha b hb e => ?_⟩
        rw [List.mem_singleton.mp hb] at e
        exact hn a ha (by rw [e])
      · rw [List.mem_append, List.mem_singleton, List.mem_filter]
        constructor
        · rintro (z | rfl)
          · exact z.1
          · exact ho
        · intro hy
          by_cases e : y.name = o.name
          · right
            obtain ⟨i, hi, rfl⟩ := List.mem_iff_getElem.mp hy
            obtain ⟨j, hj, rfl⟩ := List.mem_iff_getElem.mp ho
            have hnd' := List.pairwise_iff_getElem.mp (List.pairwise_map.mp hnd)
            rcases Nat.lt_trichotomy i j with z | z | z
            · exact absurd e (hnd' i j hi hj z)
            · subst z; rfl
            · exact absurd e.symm (hnd' j i hj hi z)
          · left; exact ⟨hy, by simp [e]⟩
    have hc2 := crew_perm hc hp
    have ek : keepF size r ((hs.filter fun h => !decide (h.name = o.name)) ++ [o]) p = keepF size r hs p := keepF_perm hc hc2 hp
    rcases (join_keep (p := p) hr hg hc2 hn).1 with ⟨_, e, _⟩ | ⟨_, _, ⟨_, y, e⟩ | ⟨_, e⟩⟩
    · rw [ek] at e; rw [e]; exact Nat.zero_le _
    · rw [ek] at e; rw [e]; exact Nat.le_refl _
    · rw [ek] at e; rw [e]; exact Nat.zero_le _
def strsP (A : List Str) : PyData := .tuple (A.map PyData.str)
def tellP (A B : List Str) : PyData := .list [.list [strsP A, strsP B], .list [strsP A, strsP B]]
theorem toPy_strs (A : List Str) : toPy (strsT A) = some (strsP A) := by
  show (toPys (A.map D.str)).map PyData.tuple = _
  rw [toPys_str]; rfl
theorem py_tell (M : Mem) (A B : List Str) : pyOf1 M (.lst [.lst [strsT A, strsT B], .lst [strsT A, strsT B]]) = some (tellP A B) := by
  have e1 : pyOf M (.lst [strsT A, strsT B]) = some (.list [strsP A, strsP B]) := by
    show (toPys [strsT A, strsT B]).map PyData.list = _
    have : toPys [strsT A, strsT B] = some [strsP A, strsP B] := by
      show (match toPy (strsT A), toPys [strsT B] with | some p, some ps => some (p :: ps) | _, _ => none) = _
      have e2 : toPys [strsT B] = some [strsP B] := by
        show (match toPy (strsT B), toPys [] with | some p, some ps => some (p :: ps) | _, _ => none) = _
        rw [toPy_strs]; rfl
      rw [toPy_strs, e2]
    rw [this]; rfl
  show (pyOfs M [.lst [strsT A, strsT B], .lst [strsT A, strsT B]]).map PyData.list = _
  have : pyOfs M [.lst [strsT A, strsT B], .lst [strsT A, strsT B]] = some [.list [strsP A, strsP B], .list [strsP A, strsP B]] := by
    show (match pyOf M (.lst [strsT A, strsT B]), pyOfs M [.lst [strsT A, strsT B]] with | some p, some ps => some (p :: ps) | _, _ => none) = _
    have e2 : pyOfs M [.lst [strsT A, strsT B]] = some [.list [strsP A, strsP B]] := by
      show (match pyOf M (.lst [strsT A, strsT B]), pyOfs M [] with | some p, some ps => some (p :: ps) | _, _ => none) = _
      rw [e1]; rfl
    rw [e1, e2]
  rw [this]; rfl
theorem sh_strsP {A : List Str} (hl : A.length ≤ 5) (hn : ∀ x ∈ A, nameB x = true) : Sh 500 1 (strsP A) :=
  (Sh.tuple (m := 5) (n := 82) (k := 0) (fun x hx => by
    obtain ⟨y, hy, rfl⟩ := List.mem_map.mp hx
    exact Sh.str (hn y hy)) (by rw [List.length_map]; exact hl)).mono (by decide) (Nat.le_refl _)
theorem sh_tell {A B : List Str} (hA : A.length ≤ 5) (nA : ∀ x ∈ A, nameB x = true) (hB : B.length ≤ 5) (nB : ∀ x ∈ B, nameB x = true) : showOk (tellP A B) := by
  have h1 : Sh 1100 2 (.list [strsP A, strsP B]) := (Sh.list (m := 2) (n := 500) (k := 1) (fun x hx => by
    simp only [List.mem_cons, List.not_mem_nil, or_false] at hx
    rcases hx with rfl | rfl
    · exact sh_strsP hA nA
    · exact sh_strsP hB nB) (by simp)).mono (by decide) (Nat.le_refl _)
  refine (Sh.list (m := 2) (n := 1100) (k := 2) (fun x hx => ?_) (by simp)).ok (by decide) (by decide)
  simp only [List.mem_cons, List.not_mem_nil, or_false] at hx
  rcases hx with rfl | rfl <;> exact h1
theorem kp_right (C P : Addr) : Keeps N_right 1 (sd_right C P) (db_right C P) := by
  rintro ds M q ex hl ⟨k, rfl, hK, h⟩
  show db_right C P _ [some (.cel k), none, none, none, none, none, none, none, none, none, none, none, none, none, none] M
  unfold db_right
  infer_instance
  refine ⟨k, 26, _, rfl, by decide, by decide, hK, by omega, fun v M1 v0 v1 hB1 hK1 => ?_⟩
  infer_instance
  refine ⟨k, _, 5 + v, 3, rfl, by omega, by omega, by decide, by decide, hK1, by omega, fun r hs M2 hr hw hc h5 hn hm hB2 hK2 => ?_⟩
  infer_instance
  refine ⟨k, _, 5 + v, r, hs, 16, rfl, by omega, by omega, by omega, hc, hK2, by omega, fun des ss a b M3 hP hdl hA hB hB3 hK3 => ?_⟩
  infer_instance
  refine ⟨5 + v, r, hs, rfl, by omega, by omega, hr, hc, fun M4 hK4 => ?_⟩
  have hA4 := hK4 _ _ hA
  have hB4 := hK4 _ _ hB
  have s1 : 1 ≤ 5 + v := by omega
  have s2 : 5 + v ≤ 60 := by omega
  generalize 5 + v = size at *
  infer_instance
  refine ⟨_, _, rfl, celL_of hA4, ?_⟩
  infer_instance
  intro c hcn
  have PO : PlanOk size r hs des ss := ⟨⟨s1, by omega, hr⟩, hP, by omega⟩
  refine ⟨c, size, r, hs, des, ss, by unfold deedsT; rfl, mset_same, PO, fun M5 hM5 hK5 => ?_⟩
  refine ⟨rfl, planF C size r hs des ss, hM5, ?_⟩
  have hK6 : Kept M4 (mdel M5 c) := fun d y hd => by
    have hdc : d ≠ c := fun e => by rw [e, hcn] at hd; cases hd
    unfold mdel
    rw [if_neg hdc]
    exact hK5 d y (by rw [mset_ne hdc]; exact hd) hdc
  have hkb : KeptB k M (mdel M5 c) := (((hB1.trans hB2).trans hB3).trans hK4.b).trans hK6.b
  have hB6 := hK6 _ _ hB4
  generalize mdel M5 c = M6 at *
  have hpl : D.ins P ((planF C size r hs des ss).map (·.1)) ((planF C size r hs des ss).map (·.2)) = planD C P size r hs des ss := rfl
  rw [hpl]
  clear hpl
  have hsl := hP.len
  have hml : (ss.map (standD size r)).length = ss.length := List.length_map _
  infer_instance
  rw [hml]
  have hRO : ∀ w5 w6 w7 w8 w9 w10 w11 w12 w13 w14 : Option D, ([some (.cel k), some (.lst (frameL size r hs)), some (.cel a), some (.cel b), some (planD C P size r hs des ss), w5, w6, w7, w8, w9, w10, w11, w12, w13, w14] : EnvD).length = 15 := fun _ _ _ _ _ _ _ _ _ _ => rfl
  refine for_rng (n := ss.length) (fun i env M' => ∃ w5 w6 w7 w8 w9 w10 w11 w12 w13 w14 : Option D, env = [some (.cel k), some (.lst (frameL size r hs)), some (.cel a), some (.cel b), some (planD C P size r hs des ss), w5, w6, w7, w8, w9, w10, w11, w12, w13, w14] ∧ Kept M6 M') ?_ ?_ _ _ ⟨_, _, _, _, _, _, _, _, _, _, rfl, Kept.refl _⟩
  · rintro env M' ⟨w5, w6, w7, w8, w9, w10, w11, w12, w13, w14, rfl, hKM⟩
    refine ⟨trivial, ?_⟩
    infer_instance
    exact h M' (hkb.trans hKM.b)
  · rintro i env M' hi ⟨w5, w6, w7, w8, w9, w10, w11, w12, w13, w14, rfl, hKM⟩ nx hnx
    refine ⟨trivial, ?_⟩
    rw [show (0 : Int) + (i : Nat) = (i : Nat) by omega]
    have hB7 := hKM _ _ hB6
    obtain ⟨s, hs_⟩ : ∃ s, ss[i]? = some s := ⟨_, List.getElem?_eq_getElem hi⟩
    have hso := hP.sok i s hs_
    infer_instance
    refine ix_cel hB7 (DL.atI_nat (n := i) (x := standD size r s) (by rw [List.getElem?_map, hs_]; rfl)) ?_
    unfold standD
    infer_instance
    refine for_rng (n := size.toNat) (fun j env M' => ∃ w9 w10 w11 w12 w13 w14 : Option D, env = [some (.cel k), some (.lst (frameL size r hs)), some (.cel a), some (.cel b), some (planD C P size r hs des ss), some (.int (i : Nat)), some (.lst (frameL size r s.now)), some (optL size r s.aft), some (strsL s.dn), w9, w10, w11, w12, w13, w14] ∧ Kept M6 M') ?_ ?_ _ _ ⟨_, _, _, _, _, _, rfl, hKM⟩
    · rintro env M' ⟨w9, w10, w11, w12, w13, w14, rfl, hKM'⟩
      refine ⟨trivial, ?_⟩
      exact hnx _ _ ⟨_, _, _, _, _, _, _, _, _, _, rfl, hKM'⟩
    · rintro j env M' hj ⟨w9, w10, w11, w12, w13, w14, rfl, hKM'⟩ nx hnx
      refine ⟨trivial, ?_⟩
      rw [show (0 : Int) + (j : Nat) = (j : Nat) by omega]
      have p0 : (0 : Int) ≤ (j : Nat) := Int.natCast_nonneg _
      have p1 : ((j : Nat) : Int) < size := by omega
      generalize ((j : Nat) : Int) = p at *
      infer_instance
      refine ⟨size, p, r, s.now, rfl, by omega, hso.c, hr, fun M7 hK7 => ?_⟩
      infer_instance
      have hnum := keepF_len (size := size) (p := p) (hs := s.now) hr
      cases ea : s.aft with
      | none =>
        have hpf : pendF size r s p = [] := by unfold pendF; rw [ea]
        rw [ea] at hnx
        rw [show DL.isNon (optL size r none) = true from rfl]
        have hRl : ([] : List Str).length ≤ 1 := Nat.zero_le _
        infer_instance
        refine ⟨_, fs_plan, lkp_none (by decide) (by decide) (by decide), ?_⟩
        infer_instance
        refine ⟨size, r, hs, des, ss, i, s, p, rfl, PO, hs_, p0, p1, fun N1 hN1 => ?_⟩
        infer_instance
        refine ⟨_, fs_plan, lkp_none (by decide) (by decide) (by decide), ?_⟩
        infer_instance
        refine ⟨size, r, hs, des, ss, i, s, p, rfl, PO, hs_, p0, p1, fun N2 hN2 => ?_⟩
        infer_instance
        refine ⟨_, fs_plan, lkp_none (by decide) (by decide) (by decide), ?_⟩
        infer_instance
        refine ⟨size, r, hs, des, ss, i, s, p, rfl, PO, hs_, p0, p1, fun N3 hN3 => ?_⟩
        infer_instance
        refine ⟨_, fs_plan, lkp_none (by decide) (by decide) (by decide), ?_⟩
        infer_instance
        refine ⟨size, r, hs, des, ss, i, s, p, rfl, PO, hs_, p0, p1, fun N4 hN4 => ?_⟩
        rw [hpf]
        have hsh : showOk (tellP (keepF size r s.now p) []) := sh_tell (keepF_len hr) (fun x hx => names_ok hso.c (keepF_in hso.c hr) x hx) (by omega) (fun x hx => by cases hx)
        infer_instance
        refine ⟨_, _, rfl, py_tell _ (keepF size r s.now p) [], hsh, ?_⟩
        infer_instance
        refine ⟨_, _, rfl, py_tell _ (keepF size r s.now p) [], hsh, ?_⟩
        infer_instance
        refine ne_strA ?_
        rw [decide_eq_true rfl]
        infer_instance
        exact hnx _ _ ⟨_, _, _, _, _, _, rfl, ((((hKM'.trans hK7).trans hN1).trans hN2).trans hN3).trans hN4⟩
      | some gs =>
        obtain ⟨hg, hnear⟩ := hso.a gs ea
        rw [ea] at hnx
        have hgl := keepF_len (size := size) (p := p) (hs := gs) hr
        have hRl := near_one (p := p) hr hso.c hg hnear
        have hpf : pendF size r s p = (keepF size r gs p).filter fun x => !decide (x ∈ keepF size r s.now p) := by unfold pendF; rw [ea]
        rw [show DL.isNon (optL size r (some gs)) = false from rfl]
        infer_instance
        refine ⟨size, p, r, gs, rfl, by omega, hg, hr, fun M8 hK8 => ?_⟩
        infer_instance
        intro c hcn
        refine lc_dn (keepF size r gs p) (fun x => !decide (x ∈ keepF size r s.now p)) hcn (by omega) (fun _ => rfl) (fun y hy acc hz nx h1 h2 => ?_) ?_
        · infer_instance
          refine ni_str rfl ?_
          infer_instance
          refine ifB (fun e => ?_) (fun e => ?_)
          · infer_instance
            exact acc_put hz (h1 e)
          · exact h2 e
        infer_instance
        refine ⟨_, _, rfl, rfl, ?_⟩
        infer_instance
        refine ⟨_, fs_plan, lkp_none (by decide) (by decide) (by decide), ?_⟩
        infer_instance
        refine ⟨size, r, hs, des, ss, i, s, p, rfl, PO, hs_, p0, p1, fun N1 hN1 => ?_⟩
        infer_instance
        refine ⟨_, fs_plan, lkp_none (by decide) (by decide) (by decide), ?_⟩
        infer_instance
        refine ⟨size, r, hs, des, ss, i, s, p, rfl, PO, hs_, p0, p1, fun N2 hN2 => ?_⟩
        infer_instance
        refine ⟨_, fs_plan, lkp_none (by decide) (by decide) (by decide), ?_⟩
        infer_instance
        refine ⟨size, r, hs, des, ss, i, s, p, rfl, PO, hs_, p0, p1, fun N3 hN3 => ?_⟩
        infer_instance
        refine ⟨_, fs_plan, lkp_none (by decide) (by decide) (by decide), ?_⟩
        infer_instance
        refine ⟨size, r, hs, des, ss, i, s, p, rfl, PO, hs_, p0, p1, fun N4 hN4 => ?_⟩
        rw [hpf]
        have hsh : showOk (tellP (keepF size r s.now p) ((keepF size r gs p).filter fun x => !decide (x ∈ keepF size r s.now p))) := sh_tell (keepF_len hr) (fun x hx => names_ok hso.c (keepF_in hso.c hr) x hx) (by omega) (fun x hx => names_ok hg (keepF_in hg hr) x (List.mem_filter.mp hx).1)
        infer_instance
        refine ⟨_, _, rfl, py_tell _ _ _, hsh, ?_⟩
        infer_instance
        refine ⟨_, _, rfl, py_tell _ _ _, hsh, ?_⟩
        infer_instance
        refine ne_strA ?_
        rw [decide_eq_true rfl]
        infer_instance
        rw [decide_eq_false (show ¬ (1 : Int) < _ by rw [List.length_map]; omega)]
        infer_instance
        exact hnx _ _ ⟨_, _, _, _, _, _, rfl, (((((hKM'.trans hK7).trans hK8).trans hN1).trans hN2).trans hN3).trans hN4⟩
theorem kp_law (C P : Addr) : Keeps N_law 1 (sd_law C P) (db_law C P) := by
  rintro ds M q ex hl ⟨ns, rfl, h63, hb, h⟩
  show db_law C P _ [some (.lsf (ns.map D.int)), none] M
  unfold db_law
  ac_rfl
  refine len_seq (xs := ns.map D.int) rfl ?_
  have hml : (ns.map D.int).length = ns.length := List.length_map _
  ac_rfl
  refine min_int fun m m1 m2 _ => ?_
  ac_rfl
  refine max_int fun n n1 n2 n3 => ?_
  ac_rfl
  refine for_rng (fun i env M' => ∃ w1 : Option D, env = [some (.lsf (ns.map D.int)), w1]) ?_ ?_ _ _ ⟨_, rfl⟩
  · rintro env M' ⟨w1, rfl⟩
    refine ⟨trivial, ?_⟩
    ac_rfl
    exact h M'
  · rintro i env M' hi ⟨w1, rfl⟩ nx hnx
    refine ⟨trivial, ?_⟩
    rw [show (0 : Int) + (i : Nat) = (i : Nat) by omega]
    ac_rfl
    refine ⟨ns, i, rfl, by omega, h63, hb, fun k M5 hk hK5 hKg => ?_⟩
    ac_rfl
    refine ⟨k, rfl, hKg, fun M6 hB6 => ?_⟩
    ac_rfl
    exact hnx _ _ ⟨_, rfl⟩
end L31
set_option maxRecDepth 100000
set_option maxHeartbeats 4000000
namespace L31
open PySem PySem.Spec PyProof.Rows L2 DL R
theorem fnIn_of {K : PySem.W.Frag} {x qual : Str} {params : Arguments} {body : List Stmt} {scope : Scope} {dvs : List V} {kws : List (Str × V)} {f : Addr} {fd : FuncData} (F : FunD K x qual params body scope dvs kws f fd) : PySem.W.fnIn K f = true := by
  obtain ⟨oc, od, dV, kV, doc, pm, an, cdv, ct, osl, rfl, lk, _⟩ := F.ex
  unfold PySem.W.fnIn
  rw [lk]
section
variable {w : World} {K : PySem.W.Frag} {h : Heap} {mg : Str → Option Value}
theorem tx (KX : K.In h) (G : h.Ns mainGlobals mg) (c : DLH.SaysR faA fnA exA K) : Tx K mg (He.ga K "Ring") (He.ga K "Plan") := by
  have e : (He.tupB K "SPREADS" [.str "hosts", .str "racks"] && (He.tupB K "PENDINGS" [.str "plain", .str "with"] && (DLH.propB K "Ring" "names" && (DLH.propB K "Ring" "points" && (DLH.propB K "Ring" "hosts" && (DLH.propB K "Ring" "factor" && (DLH.propB K "Ring" "spread" && (DLH.rowB K (He.ga K "FORMS") [.adr (DLH.rowAt "FORMS" 0), .adr (DLH.rowAt "FORMS" 1), .adr (DLH.rowAt "FORMS" 2), .adr (DLH.rowAt "FORMS" 3), .adr (DLH.rowAt "FORMS" 4), .adr (DLH.rowAt "FORMS" 5), .adr (DLH.rowAt "FORMS" 6), .adr (DLH.rowAt "FORMS" 7)] && (DLH.rowB K (DLH.rowAt "FORMS" 0 K) [.str "join", .int 4] && (DLH.rowB K (DLH.rowAt "FORMS" 1 K) [.str "leave", .int 2] && (DLH.rowB K (DLH.rowAt "FORMS" 2 K) [.str "copy", .int 3] && (DLH.rowB K (DLH.rowAt "FORMS" 3 K) [.str "settle", .int 1] && (DLH.rowB K (DLH.rowAt "FORMS" 4 K) [.str "down", .int 2] && (DLH.rowB K (DLH.rowAt "FORMS" 5 K) [.str "up", .int 2] && (DLH.rowB K (DLH.rowAt "FORMS" 6 K) [.str "wipe", .int 2] && (DLH.rowB K (DLH.rowAt "FORMS" 7 K) [.str "repair", .int 3] && (DLH.isB K "Ring" && (He.valsB K (He.ga K "ACTIONS") [("join", .adr (DLH.atG "behind_join")), ("leave", .adr (DLH.atG "behind_leave")), ("copy", .adr (DLH.atG "behind_copy")), ("settle", .adr (DLH.atG "behind_settle")), ("down", .adr (DLH.atG "behind_down")), ("up", .adr (DLH.atG "behind_up")), ("wipe", .adr (DLH.atG "behind_wipe")), ("repair", .adr (DLH.atG "behind_repair"))])))))))))))))))))) = true := c.more
  obtain ⟨e1, e⟩ := He.ba e
  obtain ⟨e2, e⟩ := He.ba e
  exact {
    abs := He.free_ok KX G (c.fact 76 (f := .free "abs") rfl)
    all := He.free_ok KX G (c.fact 77 (f := .free "all") rfl)
    any := He.free_ok KX G (c.fact 78 (f := .free "any") rfl)
    bool := He.free_ok KX G (c.fact 79 (f := .free "bool") rfl)
    dict := He.free_ok KX G (c.fact 80 (f := .free "dict") rfl)
    divmod := He.free_ok KX G (c.fact 81 (f := .free "divmod") rfl)
    enumerate := He.free_ok KX G (c.fact 82 (f := .free "enumerate") rfl)
    int := He.free_ok KX G (c.fact 83 (f := .free "int") rfl)
    isinstance := He.free_ok KX G (c.fact 84 (f := .free "isinstance") rfl)
    len := He.free_ok KX G (c.fact 85 (f := .free "len") rfl)
    list := He.free_ok KX G (c.fact 86 (f := .free "list") rfl)
    max := He.free_ok KX G (c.fact 87 (f := .free "max") rfl)
    min := He.free_ok KX G (c.fact 88 (f := .free "min") rfl)
    range := He.free_ok KX G (c.fact 89 (f := .free "range") rfl)
    repr := He.free_ok KX G (c.fact 90 (f := .free "repr") rfl)
    sorted := He.free_ok KX G (c.fact 91 (f := .free "sorted") rfl)
    str := He.free_ok KX G (c.fact 92 (f := .free "str") rfl)
    tuple := He.free_ok KX G (c.fact 93 (f := .free "tuple") rfl)
    zip := He.free_ok KX G (c.fact 94 (f := .free "zip") rfl)
    c_DIGITS := He.str_ok KX G (c.fact 95 (f := .str "DIGITS" "0123456789") rfl)
    c_FORMS := ⟨_, He.glo_ok KX G (c.fact 103 (f := .glo "FORMS") rfl), fun H => .tup (DLH.rowB_ok (by
      have e : (He.tupB K "SPREADS" [.str "hosts", .str "racks"] && (He.tupB K "PENDINGS" [.str "plain", .str "with"] && (DLH.propB K "Ring" "names" && (DLH.propB K "Ring" "points" && (DLH.propB K "Ring" "hosts" && (DLH.propB K "Ring" "factor" && (DLH.propB K "Ring" "spread" && (DLH.rowB K (He.ga K "FORMS") [.adr (DLH.rowAt "FORMS" 0), .adr (DLH.rowAt "FORMS" 1), .adr (DLH.rowAt "FORMS" 2), .adr (DLH.rowAt "FORMS" 3), .adr (DLH.rowAt "FORMS" 4), .adr (DLH.rowAt "FORMS" 5), .adr (DLH.rowAt "FORMS" 6), .adr (DLH.rowAt "FORMS" 7)] && (DLH.rowB K (DLH.rowAt "FORMS" 0 K) [.str "join", .int 4] && (DLH.rowB K (DLH.rowAt "FORMS" 1 K) [.str "leave", .int 2] && (DLH.rowB K (DLH.rowAt "FORMS" 2 K) [.str "copy", .int 3] && (DLH.rowB K (DLH.rowAt "FORMS" 3 K) [.str "settle", .int 1] && (DLH.rowB K (DLH.rowAt "FORMS" 4 K) [.str "down", .int 2] && (DLH.rowB K (DLH.rowAt "FORMS" 5 K) [.str "up", .int 2] && (DLH.rowB K (DLH.rowAt "FORMS" 6 K) [.str "wipe", .int 2] && (DLH.rowB K (DLH.rowAt "FORMS" 7 K) [.str "repair", .int 3] && (DLH.isB K "Ring" && (He.valsB K (He.ga K "ACTIONS") [("join", .adr (DLH.atG "behind_join")), ("leave", .adr (DLH.atG "behind_leave")), ("copy", .adr (DLH.atG "behind_copy")), ("settle", .adr (DLH.atG "behind_settle")), ("down", .adr (DLH.atG "behind_down")), ("up", .adr (DLH.atG "behind_up")), ("wipe", .adr (DLH.atG "behind_wipe")), ("repair", .adr (DLH.atG "behind_repair"))])))))))))))))))))) = true := c.more
      obtain ⟨_, e⟩ := He.ba e
      obtain ⟨_, e⟩ := He.ba e
      obtain ⟨_, e⟩ := He.ba e
      obtain ⟨_, e⟩ := He.ba e
      obtain ⟨_, e⟩ := He.ba e
      obtain ⟨_, e⟩ := He.ba e
      obtain ⟨_, e⟩ := He.ba e
      exact (He.ba e).1) H) (.cons (.tup (DLH.rowB_ok (by
      have e : (He.tupB K "SPREADS" [.str "hosts", .str "racks"] && (He.tupB K "PENDINGS" [.str "plain", .str "with"] && (DLH.propB K "Ring" "names" && (DLH.propB K "Ring" "points" && (DLH.propB K "Ring" "hosts" && (DLH.propB K "Ring" "factor" && (DLH.propB K "Ring" "spread" && (DLH.rowB K (He.ga K "FORMS") [.adr (DLH.rowAt "FORMS" 0), .adr (DLH.rowAt "FORMS" 1), .adr (DLH.rowAt "FORMS" 2), .adr (DLH.rowAt "FORMS" 3), .adr (DLH.rowAt "FORMS" 4), .adr (DLH.rowAt "FORMS" 5), .adr (DLH.rowAt "FORMS" 6), .adr (DLH.rowAt "FORMS" 7)] && (DLH.rowB K (DLH.rowAt "FORMS" 0 K) [.str "join", .int 4] && (DLH.rowB K (DLH.rowAt "FORMS" 1 K) [.str "leave", .int 2] && (DLH.rowB K (DLH.rowAt "FORMS" 2 K) [.str "copy", .int 3] && (DLH.rowB K (DLH.rowAt "FORMS" 3 K) [.str "settle", .int 1] && (DLH.rowB K (DLH.rowAt "FORMS" 4 K) [.str "down", .int 2] && (DLH.rowB K (DLH.rowAt "FORMS" 5 K) [.str "up", .int 2] && (DLH.rowB K (DLH.rowAt "FORMS" 6 K) [.str "wipe", .int 2] && (DLH.rowB K (DLH.rowAt "FORMS" 7 K) [.str "repair", .int 3] && (DLH.isB K "Ring" && (He.valsB K (He.ga K "ACTIONS") [("join", .adr (DLH.atG "behind_join")), ("leave", .adr (DLH.atG "behind_leave")), ("copy", .adr (DLH.atG "behind_copy")), ("settle", .adr (DLH.atG "behind_settle")), ("down", .adr (DLH.atG "behind_down")), ("up", .adr (DLH.atG "behind_up")), ("wipe", .adr (DLH.atG "behind_wipe")), ("repair", .adr (DLH.atG "behind_repair"))])))))))))))))))))) = true := c.more
      obtain ⟨_, e⟩ := He.ba e
      obtain ⟨_, e⟩ := He.ba e
      obtain ⟨_, e⟩ := He.ba e
      obtain ⟨_, e⟩ := He.ba e
      obtain ⟨_, e⟩ := He.ba e
      obtain ⟨_, e⟩ := He.ba e
      obtain ⟨_, e⟩ := He.ba e
      obtain ⟨_, e⟩ := He.ba e
      exact (He.ba e).1) H) (.cons (.str "join") (.cons (.int 4) .nil))) (.cons (.tup (DLH.rowB_ok (by
      have e : (He.tupB K "SPREADS" [.str "hosts", .str "racks"] && (He.tupB K "PENDINGS" [.str "plain", .str "with"] && (DLH.propB K "Ring" "names" && (DLH.propB K "Ring" "points" && (DLH.propB K "Ring" "hosts" && (DLH.propB K "Ring" "factor" && (DLH.propB K "Ring" "spread" && (DLH.rowB K (He.ga K "FORMS") [.adr (DLH.rowAt "FORMS" 0), .adr (DLH.rowAt "FORMS" 1), .adr (DLH.rowAt "FORMS" 2), .adr (DLH.rowAt "FORMS" 3), .adr (DLH.rowAt "FORMS" 4), .adr (DLH.rowAt "FORMS" 5), .adr (DLH.rowAt "FORMS" 6), .adr (DLH.rowAt "FORMS" 7)] && (DLH.rowB K (DLH.rowAt "FORMS" 0 K) [.str "join", .int 4] && (DLH.rowB K (DLH.rowAt "FORMS" 1 K) [.str "leave", .int 2] && (DLH.rowB K (DLH.rowAt "FORMS" 2 K) [.str "copy", .int 3] && (DLH.rowB K (DLH.rowAt "FORMS" 3 K) [.str "settle", .int 1] && (DLH.rowB K (DLH.rowAt "FORMS" 4 K) [.str "down", .int 2] && (DLH.rowB K (DLH.rowAt "FORMS" 5 K) [.str "up", .int 2] && (DLH.rowB K (DLH.rowAt "FORMS" 6 K) [.str "wipe", .int 2] && (DLH.rowB K (DLH.rowAt "FORMS" 7 K) [.str "repair", .int 3] && (DLH.isB K "Ring" && (He.valsB K (He.ga K "ACTIONS") [("join", .adr (DLH.atG "behind_join")), ("leave", .adr (DLH.atG "behind_leave")), ("copy", .adr (DLH.atG "behind_copy")), ("settle", .adr (DLH.atG "behind_settle")), ("down", .adr (DLH.atG "behind_down")), ("up", .adr (DLH.atG "behind_up")), ("wipe", .adr (DLH.atG "behind_wipe")), ("repair", .adr (DLH.atG "behind_repair"))])))))))))))))))))) = true := c.more
      obtain ⟨_, e⟩ := He.ba e
      obtain ⟨_, e⟩ := He.ba e
      obtain ⟨_, e⟩ := He.ba e
      obtain ⟨_, e⟩ := He.ba e
      obtain ⟨_, e⟩ := He.ba e
      obtain ⟨_, e⟩ := He.ba e
      obtain ⟨_, e⟩ := He.ba e
      obtain ⟨_, e⟩ := He.ba e
      obtain ⟨_, e⟩ := He.ba e
      exact (He.ba e).1) H) (.cons (.str "leave") (.cons (.int 2) .nil))) (.cons (.tup (DLH.rowB_ok (by
      have e : (He.tupB K "SPREADS" [.str "hosts", .str "racks"] && (He.tupB K "PENDINGS" [.str "plain", .str "with"] && (DLH.propB K "Ring" "names" && (DLH.propB K "Ring" "points" && (DLH.propB K "Ring" "hosts" && (DLH.propB K "Ring" "factor" && (DLH.propB K "Ring" "spread" && (DLH.rowB K (He.ga K "FORMS") [.adr (DLH.rowAt "FORMS" 0), .adr (DLH.rowAt "FORMS" 1), .adr (DLH.rowAt "FORMS" 2), .adr (DLH.rowAt "FORMS" 3), .adr (DLH.rowAt "FORMS" 4), .adr (DLH.rowAt "FORMS" 5), .adr (DLH.rowAt "FORMS" 6), .adr (DLH.rowAt "FORMS" 7)] && (DLH.rowB K (DLH.rowAt "FORMS" 0 K) [.str "join", .int 4] && (DLH.rowB K (DLH.rowAt "FORMS" 1 K) [.str "leave", .int 2] && (DLH.rowB K (DLH.rowAt "FORMS" 2 K) [.str "copy", .int 3] && (DLH.rowB K (DLH.rowAt "FORMS" 3 K) [.str "settle", .int 1] && (DLH.rowB K (DLH.rowAt "FORMS" 4 K) [.str "down", .int 2] && (DLH.rowB K (DLH.rowAt "FORMS" 5 K) [.str "up", .int 2] && (DLH.rowB K (DLH.rowAt "FORMS" 6 K) [.str "wipe", .int 2] && (DLH.rowB K (DLH.rowAt "FORMS" 7 K) [.str "repair", .int 3] && (DLH.isB K "Ring" && (He.valsB K (He.ga K "ACTIONS") [("join", .adr (DLH.atG "behind_join")), ("leave", .adr (DLH.atG "behind_leave")), ("copy", .adr (DLH.atG "behind_copy")), ("settle", .adr (DLH.atG "behind_settle")), ("down", .adr (DLH.atG "behind_down")), ("up", .adr (DLH.atG "behind_up")), ("wipe", .adr (DLH.atG "behind_wipe")), ("repair", .adr (DLH.atG "behind_repair"))])))))))))))))))))) = true := c.more
      obtain ⟨_, e⟩ := He.ba e
      obtain ⟨_, e⟩ := He.ba e
      obtain ⟨_, e⟩ := He.ba e
      obtain ⟨_, e⟩ := He.ba e
      obtain ⟨_, e⟩ := He.ba e
      obtain ⟨_, e⟩ := He.ba e
      obtain ⟨_, e⟩ := He.ba e
      obtain ⟨_, e⟩ := He.ba e
      obtain ⟨_, e⟩ := He.ba e
      obtain ⟨_, e⟩ := He.ba e
      exact (He.ba e).1) H) (.cons (.str "copy") (.cons (.int 3) .nil))) (.cons (.tup (DLH.rowB_ok (by
      have e : (He.tupB K "SPREADS" [.str "hosts", .str "racks"] && (He.tupB K "PENDINGS" [.str "plain", .str "with"] && (DLH.propB K "Ring" "names" && (DLH.propB K "Ring" "points" && (DLH.propB K "Ring" "hosts" && (DLH.propB K "Ring" "factor" && (DLH.propB K "Ring" "spread" && (DLH.rowB K (He.ga K "FORMS") [.adr (DLH.rowAt "FORMS" 0), .adr (DLH.rowAt "FORMS" 1), .adr (DLH.rowAt "FORMS" 2), .adr (DLH.rowAt "FORMS" 3), .adr (DLH.rowAt "FORMS" 4), .adr (DLH.rowAt "FORMS" 5), .adr (DLH.rowAt "FORMS" 6), .adr (DLH.rowAt "FORMS" 7)] && (DLH.rowB K (DLH.rowAt "FORMS" 0 K) [.str "join", .int 4] && (DLH.rowB K (DLH.rowAt "FORMS" 1 K) [.str "leave", .int 2] && (DLH.rowB K (DLH.rowAt "FORMS" 2 K) [.str "copy", .int 3] && (DLH.rowB K (DLH.rowAt "FORMS" 3 K) [.str "settle", .int 1] && (DLH.rowB K (DLH.rowAt "FORMS" 4 K) [.str "down", .int 2] && (DLH.rowB K (DLH.rowAt "FORMS" 5 K) [.str "up", .int 2] && (DLH.rowB K (DLH.rowAt "FORMS" 6 K) [.str "wipe", .int 2] && (DLH.rowB K (DLH.rowAt "FORMS" 7 K) [.str "repair", .int 3] && (DLH.isB K "Ring" && (He.valsB K (He.ga K "ACTIONS") [("join", .adr (DLH.atG "behind_join")), ("leave", .adr (DLH.atG "behind_leave")), ("copy", .adr (DLH.atG "behind_copy")), ("settle", .adr (DLH.atG "behind_settle")), ("down", .adr (DLH.atG "behind_down")), ("up", .adr (DLH.atG "behind_up")), ("wipe", .adr (DLH.atG "behind_wipe")), ("repair", .adr (DLH.atG "behind_repair"))])))))))))))))))))) = true := c.more
      obtain ⟨_, e⟩ := He.ba e
      obtain ⟨_, e⟩ := He.ba e
      obtain ⟨_, e⟩ := He.ba e
      obtain ⟨_, e⟩ := He.ba e
      obtain ⟨_, e⟩ := He.ba e
      obtain ⟨_, e⟩ := He.ba e
      obtain ⟨_, e⟩ := He.ba e
      obtain ⟨_, e⟩ := He.ba e
      obtain ⟨_, e⟩ := He.ba e
      obtain ⟨_, e⟩ := He.ba e
      obtain ⟨_, e⟩ := He.ba e
      exact (He.ba e).1) H) (.cons (.str "settle") (.cons (.int 1) .nil))) (.cons (.tup (DLH.rowB_ok (by
      have e : (He.tupB K "SPREADS" [.str "hosts", .str "racks"] && (He.tupB K "PENDINGS" [.str "plain", .str "with"] && (DLH.propB K "Ring" "names" && (DLH.propB K "Ring" "points" && (DLH.propB K "Ring" "hosts" && (DLH.propB K "Ring" "factor" && (DLH.propB K "Ring" "spread" && (DLH.rowB K (He.ga K "FORMS") [.adr (DLH.rowAt "FORMS" 0), .adr (DLH.rowAt "FORMS" 1), .adr (DLH.rowAt "FORMS" 2), .adr (DLH.rowAt "FORMS" 3), .adr (DLH.rowAt "FORMS" 4), .adr (DLH.rowAt "FORMS" 5), .adr (DLH.rowAt "FORMS" 6), .adr (DLH.rowAt "FORMS" 7)] && (DLH.rowB K (DLH.rowAt "FORMS" 0 K) [.str "join", .int 4] && (DLH.rowB K (DLH.rowAt "FORMS" 1 K) [.str "leave", .int 2] && (DLH.rowB K (DLH.rowAt "FORMS" 2 K) [.str "copy", .int 3] && (DLH.rowB K (DLH.rowAt "FORMS" 3 K) [.str "settle", .int 1] && (DLH.rowB K (DLH.rowAt "FORMS" 4 K) [.str "down", .int 2] && (DLH.rowB K (DLH.rowAt "FORMS" 5 K) [.str "up", .int 2] && (DLH.rowB K (DLH.rowAt "FORMS" 6 K) [.str "wipe", .int 2] && (DLH.rowB K (DLH.rowAt "FORMS" 7 K) [.str "repair", .int 3] && (DLH.isB K "Ring" && (He.valsB K (He.ga K "ACTIONS") [("join", .adr (DLH.atG "behind_join")), ("leave", .adr (DLH.atG "behind_leave")), ("copy", .adr (DLH.atG "behind_copy")), ("settle", .adr (DLH.atG "behind_settle")), ("down", .adr (DLH.atG "behind_down")), ("up", .adr (DLH.atG "behind_up")), ("wipe", .adr (DLH.atG "behind_wipe")), ("repair", .adr (DLH.atG "behind_repair"))])))))))))))))))))) = true := c.more
      obtain ⟨_, e⟩ := He.ba e
      obtain ⟨_, e⟩ := He.ba e
      obtain ⟨_, e⟩ := He.ba e
      obtain ⟨_, e⟩ := He.ba e
      obtain ⟨_, e⟩ := He.ba e
      obtain ⟨_, e⟩ := He.ba e
      obtain ⟨_, e⟩ := He.ba e
      obtain ⟨_, e⟩ := He.ba e
      obtain ⟨_, e⟩ := He.ba e
      obtain ⟨_, e⟩ := He.ba e
      obtain ⟨_, e⟩ := He.ba e
      obtain ⟨_, e⟩ := He.ba e
      exact (He.ba e).1) H) (.cons (.str "down") (.cons (.int 2) .nil))) (.cons (.tup (DLH.rowB_ok (by
      have e : (He.tupB K "SPREADS" [.str "hosts", .str "racks"] && (He.tupB K "PENDINGS" [.str "plain", .str "with"] && (DLH.propB K "Ring" "names" && (DLH.propB K "Ring" "points" && (DLH.propB K "Ring" "hosts" && (DLH.propB K "Ring" "factor" && (DLH.propB K "Ring" "spread" && (DLH.rowB K (He.ga K "FORMS") [.adr (DLH.rowAt "FORMS" 0), .adr (DLH.rowAt "FORMS" 1), .adr (DLH.rowAt "FORMS" 2), .adr (DLH.rowAt "FORMS" 3), .adr (DLH.rowAt "FORMS" 4), .adr (DLH.rowAt "FORMS" 5), .adr (DLH.rowAt "FORMS" 6), .adr (DLH.rowAt "FORMS" 7)] && (DLH.rowB K (DLH.rowAt "FORMS" 0 K) [.str "join", .int 4] && (DLH.rowB K (DLH.rowAt "FORMS" 1 K) [.str "leave", .int 2] && (DLH.rowB K (DLH.rowAt "FORMS" 2 K) [.str "copy", .int 3] && (DLH.rowB K (DLH.rowAt "FORMS" 3 K) [.str "settle", .int 1] && (DLH.rowB K (DLH.rowAt "FORMS" 4 K) [.str "down", .int 2] && (DLH.rowB K (DLH.rowAt "FORMS" 5 K) [.str "up", .int 2] && (DLH.rowB K (DLH.rowAt "FORMS" 6 K) [.str "wipe", .int 2] && (DLH.rowB K (DLH.rowAt "FORMS" 7 K) [.str "repair", .int 3] && (DLH.isB K "Ring" && (He.valsB K (He.ga K "ACTIONS") [("join", .adr (DLH.atG "behind_join")), ("leave", .adr (DLH.atG "behind_leave")), ("copy", .adr (DLH.atG "behind_copy")), ("settle", .adr (DLH.atG "behind_settle")), ("down", .adr (DLH.atG "behind_down")), ("up", .adr (DLH.atG "behind_up")), ("wipe", .adr (DLH.atG "behind_wipe")), ("repair", .adr (DLH.atG "behind_repair"))])))))))))))))))))) = true := c.more
      obtain ⟨_, e⟩ := He.ba e
      obtain ⟨_, e⟩ := He.ba e
      obtain ⟨_, e⟩ := He.ba e
      obtain ⟨_, e⟩ := He.ba e
      obtain ⟨_, e⟩ := He.ba e
      obtain ⟨_, e⟩ := He.ba e
      obtain ⟨_, e⟩ := He.ba e
      obtain ⟨_, e⟩ := He.ba e
      obtain ⟨_, e⟩ := He.ba e
      obtain ⟨_, e⟩ := He.ba e
      obtain ⟨_, e⟩ := He.ba e
      obtain ⟨_, e⟩ := He.ba e
      obtain ⟨_, e⟩ := He.ba e
      exact (He.ba e).1) H) (.cons (.str "up") (.cons (.int 2) .nil))) (.cons (.tup (DLH.rowB_ok (by
      have e : (He.tupB K "SPREADS" [.str "hosts", .str "racks"] && (He.tupB K "PENDINGS" [.str "plain", .str "with"] && (DLH.propB K "Ring" "names" && (DLH.propB K "Ring" "points" && (DLH.propB K "Ring" "hosts" && (DLH.propB K "Ring" "factor" && (DLH.propB K "Ring" "spread" && (DLH.rowB K (He.ga K "FORMS") [.adr (DLH.rowAt "FORMS" 0), .adr (DLH.rowAt "FORMS" 1), .adr (DLH.rowAt "FORMS" 2), .adr (DLH.rowAt "FORMS" 3), .adr (DLH.rowAt "FORMS" 4), .adr (DLH.rowAt "FORMS" 5), .adr (DLH.rowAt "FORMS" 6), .adr (DLH.rowAt "FORMS" 7)] && (DLH.rowB K (DLH.rowAt "FORMS" 0 K) [.str "join", .int 4] && (DLH.rowB K (DLH.rowAt "FORMS" 1 K) [.str "leave", .int 2] && (DLH.rowB K (DLH.rowAt "FORMS" 2 K) [.str "copy", .int 3] && (DLH.rowB K (DLH.rowAt "FORMS" 3 K) [.str "settle", .int 1] && (DLH.rowB K (DLH.rowAt "FORMS" 4 K) [.str "down", .int 2] && (DLH.rowB K (DLH.rowAt "FORMS" 5 K) [.str "up", .int 2] && (DLH.rowB K (DLH.rowAt "FORMS" 6 K) [.str "wipe", .int 2] && (DLH.rowB K (DLH.rowAt "FORMS" 7 K) [.str "repair", .int 3] && (DLH.isB K "Ring" && (He.valsB K (He.ga K "ACTIONS") [("join", .adr (DLH.atG "behind_join")), ("leave", .adr (DLH.atG "behind_leave")), ("copy", .adr (DLH.atG "behind_copy")), ("settle", .adr (DLH.atG "behind_settle")), ("down", .adr (DLH.atG "behind_down")), ("up", .adr (DLH.atG "behind_up")), ("wipe", .adr (DLH.atG "behind_wipe")), ("repair", .adr (DLH.atG "behind_repair"))])))))))))))))))))) = true := c.more
      obtain ⟨_, e⟩ := He.ba e
      obtain ⟨_, e⟩ := He.ba e
      obtain ⟨_, e⟩ := He.ba e
      obtain ⟨_, e⟩ := He.ba e
      obtain ⟨_, e⟩ := He.ba e
      obtain ⟨_, e⟩ := He.ba e
      obtain ⟨_, e⟩ := He.ba e
      obtain ⟨_, e⟩ := He.ba e
      obtain ⟨_, e⟩ := He.ba e
      obtain ⟨_, e⟩ := He.ba e
      obtain ⟨_, e⟩ := He.ba e
      obtain ⟨_, e⟩ := He.ba e
      obtain ⟨_, e⟩ := He.ba e
      obtain ⟨_, e⟩ := He.ba e
      exact (He.ba e).1) H) (.cons (.str "wipe") (.cons (.int 2) .nil))) (.cons (.tup (DLH.rowB_ok (by
      have e : (He.tupB K "SPREADS" [.str "hosts", .str "racks"] && (He.tupB K "PENDINGS" [.str "plain", .str "with"] && (DLH.propB K "Ring" "names" && (DLH.propB K "Ring" "points" && (DLH.propB K "Ring" "hosts" && (DLH.propB K "Ring" "factor" && (DLH.propB K "Ring" "spread" && (DLH.rowB K (He.ga K "FORMS") [.adr (DLH.rowAt "FORMS" 0), .adr (DLH.rowAt "FORMS" 1), .adr (DLH.rowAt "FORMS" 2), .adr (DLH.rowAt "FORMS" 3), .adr (DLH.rowAt "FORMS" 4), .adr (DLH.rowAt "FORMS" 5), .adr (DLH.rowAt "FORMS" 6), .adr (DLH.rowAt "FORMS" 7)] && (DLH.rowB K (DLH.rowAt "FORMS" 0 K) [.str "join", .int 4] && (DLH.rowB K (DLH.rowAt "FORMS" 1 K) [.str "leave", .int 2] && (DLH.rowB K (DLH.rowAt "FORMS" 2 K) [.str "copy", .int 3] && (DLH.rowB K (DLH.rowAt "FORMS" 3 K) [.str "settle", .int 1] && (DLH.rowB K (DLH.rowAt "FORMS" 4 K) [.str "down", .int 2] && (DLH.rowB K (DLH.rowAt "FORMS" 5 K) [.str "up", .int 2] && (DLH.rowB K (DLH.rowAt "FORMS" 6 K) [.str "wipe", .int 2] && (DLH.rowB K (DLH.rowAt "FORMS" 7 K) [.str "repair", .int 3] && (DLH.isB K "Ring" && (He.valsB K (He.ga K "ACTIONS") [("join", .adr (DLH.atG "behind_join")), ("leave", .adr (DLH.atG "behind_leave")), ("copy", .adr (DLH.atG "behind_copy")), ("settle", .adr (DLH.atG "behind_settle")), ("down", .adr (DLH.atG "behind_down")), ("up", .adr (DLH.atG "behind_up")), ("wipe", .adr (DLH.atG "behind_wipe")), ("repair", .adr (DLH.atG "behind_repair"))])))))))))))))))))) = true := c.more
      obtain ⟨_, e⟩ := He.ba e
      obtain ⟨_, e⟩ := He.ba e
      obtain ⟨_, e⟩ := He.ba e
      obtain ⟨_, e⟩ := He.ba e
      obtain ⟨_, e⟩ := He.ba e
      obtain ⟨_, e⟩ := He.ba e
      obtain ⟨_, e⟩ := He.ba e
      obtain ⟨_, e⟩ := He.ba e
      obtain ⟨_, e⟩ := He.ba e
      obtain ⟨_, e⟩ := He.ba e
      obtain ⟨_, e⟩ := He.ba e
      obtain ⟨_, e⟩ := He.ba e
      obtain ⟨_, e⟩ := He.ba e
      obtain ⟨_, e⟩ := He.ba e
      obtain ⟨_, e⟩ := He.ba e
      exact (He.ba e).1) H) (.cons (.str "repair") (.cons (.int 3) .nil))) .nil))))))))⟩
    c_LETTERS := He.str_ok KX G (c.fact 96 (f := .str "LETTERS" "abcdefghijklmnopqrstuvwxyz") rfl)
    c_MOST_FACTOR := He.int_ok KX G (c.fact 97 (f := .int "MOST_FACTOR" 5) rfl)
    c_MOST_HOSTS := He.int_ok KX G (c.fact 98 (f := .int "MOST_HOSTS" 12) rfl)
    c_MOST_MARKS := He.int_ok KX G (c.fact 99 (f := .int "MOST_MARKS" 16) rfl)
    c_MOST_POINTS := He.int_ok KX G (c.fact 100 (f := .int "MOST_POINTS" 1000000000000000000) rfl)
    c_MOST_SIGNS := He.int_ok KX G (c.fact 101 (f := .int "MOST_SIGNS" 8) rfl)
    c_MOST_STEPS := He.int_ok KX G (c.fact 102 (f := .int "MOST_STEPS" 24) rfl)
    c_PENDINGS := ⟨_, He.glo_ok KX G (c.fact 64 (f := .glo "PENDINGS") rfl), He.tupB_ok e2⟩
    c_SPREADS := ⟨_, He.glo_ok KX G (c.fact 63 (f := .glo "SPREADS") rfl), He.tupB_ok e1⟩
    isC := DLH.isB_ok (He.cls_ok (c.fact 57 (f := .cls "Ring") rfl)) (by
      have e : (He.tupB K "SPREADS" [.str "hosts", .str "racks"] && (He.tupB K "PENDINGS" [.str "plain", .str "with"] && (DLH.propB K "Ring" "names" && (DLH.propB K "Ring" "points" && (DLH.propB K "Ring" "hosts" && (DLH.propB K "Ring" "factor" && (DLH.propB K "Ring" "spread" && (DLH.rowB K (He.ga K "FORMS") [.adr (DLH.rowAt "FORMS" 0), .adr (DLH.rowAt "FORMS" 1), .adr (DLH.rowAt "FORMS" 2), .adr (DLH.rowAt "FORMS" 3), .adr (DLH.rowAt "FORMS" 4), .adr (DLH.rowAt "FORMS" 5), .adr (DLH.rowAt "FORMS" 6), .adr (DLH.rowAt "FORMS" 7)] && (DLH.rowB K (DLH.rowAt "FORMS" 0 K) [.str "join", .int 4] && (DLH.rowB K (DLH.rowAt "FORMS" 1 K) [.str "leave", .int 2] && (DLH.rowB K (DLH.rowAt "FORMS" 2 K) [.str "copy", .int 3] && (DLH.rowB K (DLH.rowAt "FORMS" 3 K) [.str "settle", .int 1] && (DLH.rowB K (DLH.rowAt "FORMS" 4 K) [.str "down", .int 2] && (DLH.rowB K (DLH.rowAt "FORMS" 5 K) [.str "up", .int 2] && (DLH.rowB K (DLH.rowAt "FORMS" 6 K) [.str "wipe", .int 2] && (DLH.rowB K (DLH.rowAt "FORMS" 7 K) [.str "repair", .int 3] && (DLH.isB K "Ring" && (He.valsB K (He.ga K "ACTIONS") [("join", .adr (DLH.atG "behind_join")), ("leave", .adr (DLH.atG "behind_leave")), ("copy", .adr (DLH.atG "behind_copy")), ("settle", .adr (DLH.atG "behind_settle")), ("down", .adr (DLH.atG "behind_down")), ("up", .adr (DLH.atG "behind_up")), ("wipe", .adr (DLH.atG "behind_wipe")), ("repair", .adr (DLH.atG "behind_repair"))])))))))))))))))))) = true := c.more
      obtain ⟨_, e⟩ := He.ba e
      obtain ⟨_, e⟩ := He.ba e
      obtain ⟨_, e⟩ := He.ba e
      obtain ⟨_, e⟩ := He.ba e
      obtain ⟨_, e⟩ := He.ba e
      obtain ⟨_, e⟩ := He.ba e
      obtain ⟨_, e⟩ := He.ba e
      obtain ⟨_, e⟩ := He.ba e
      obtain ⟨_, e⟩ := He.ba e
      obtain ⟨_, e⟩ := He.ba e
      obtain ⟨_, e⟩ := He.ba e
      obtain ⟨_, e⟩ := He.ba e
      obtain ⟨_, e⟩ := He.ba e
      obtain ⟨_, e⟩ := He.ba e
      obtain ⟨_, e⟩ := He.ba e
      obtain ⟨_, e⟩ := He.ba e
      exact (He.ba e).1)
    g_Ring := He.glo_ok KX G (c.fact 56 (f := .glo "Ring") rfl)
    cPlan := He.cls_ok (c.fact 60 (f := .cls "Plan") rfl)
    naP := fun f hf => by
      simp only [List.mem_cons, List.not_mem_nil, or_false] at hf
      rcases hf with rfl | rfl | rfl
      · exact He.noat_ok (c.fact 73 (f := .noat "Plan" "_states") rfl)
      · exact He.noat_ok (c.fact 74 (f := .noat "Plan" "_ring") rfl)
      · exact He.noat_ok (c.fact 75 (f := .noat "Plan" "_steps") rfl)
    cRing := He.cls_ok (c.fact 57 (f := .cls "Ring") rfl)
    na := fun f hf => by
      simp only [List.mem_cons, List.not_mem_nil, or_false] at hf
      rcases hf with rfl | rfl | rfl | rfl | rfl | rfl | rfl | rfl
      · exact He.noat_ok (c.fact 65 (f := .noat "Ring" "_points") rfl)
      · exact He.noat_ok (c.fact 66 (f := .noat "Ring" "_factor") rfl)
      · exact He.noat_ok (c.fact 67 (f := .noat "Ring" "_spread") rfl)
      · exact He.noat_ok (c.fact 68 (f := .noat "Ring" "_write") rfl)
      · exact He.noat_ok (c.fact 69 (f := .noat "Ring" "_read_number") rfl)
      · exact He.noat_ok (c.fact 70 (f := .noat "Ring" "_pending") rfl)
      · exact He.noat_ok (c.fact 71 (f := .noat "Ring" "_hosts") rfl)
      · exact He.noat_ok (c.fact 72 (f := .noat "Ring" "__bool__") rfl)
  }
theorem facts {P : Program} (KX : K.In h) (G : h.Ns mainGlobals mg) (cq : DLH.SaysQ faA fnA exA tsA w K) : ∃ fd : FuncData, (∀ (s : Shared) (u : Value), BindsTo s fd ⟨[u], []⟩ [("_law_script", u)]) ∧ ∀ base : Heap, FnG P w K mg base 16 (He.ga K "law") fd P_law (spOf K 1 (sd_law (He.ga K "Ring") (He.ga K "Plan"))) := by
  have c := cq.1
  have T := tx KX G c
  have e : (He.tupB K "SPREADS" [.str "hosts", .str "racks"] && (He.tupB K "PENDINGS" [.str "plain", .str "with"] && (DLH.propB K "Ring" "names" && (DLH.propB K "Ring" "points" && (DLH.propB K "Ring" "hosts" && (DLH.propB K "Ring" "factor" && (DLH.propB K "Ring" "spread" && (DLH.rowB K (He.ga K "FORMS") [.adr (DLH.rowAt "FORMS" 0), .adr (DLH.rowAt "FORMS" 1), .adr (DLH.rowAt "FORMS" 2), .adr (DLH.rowAt "FORMS" 3), .adr (DLH.rowAt "FORMS" 4), .adr (DLH.rowAt "FORMS" 5), .adr (DLH.rowAt "FORMS" 6), .adr (DLH.rowAt "FORMS" 7)] && (DLH.rowB K (DLH.rowAt "FORMS" 0 K) [.str "join", .int 4] && (DLH.rowB K (DLH.rowAt "FORMS" 1 K) [.str "leave", .int 2] && (DLH.rowB K (DLH.rowAt "FORMS" 2 K) [.str "copy", .int 3] && (DLH.rowB K (DLH.rowAt "FORMS" 3 K) [.str "settle", .int 1] && (DLH.rowB K (DLH.rowAt "FORMS" 4 K) [.str "down", .int 2] && (DLH.rowB K (DLH.rowAt "FORMS" 5 K) [.str "up", .int 2] && (DLH.rowB K (DLH.rowAt "FORMS" 6 K) [.str "wipe", .int 2] && (DLH.rowB K (DLH.rowAt "FORMS" 7 K) [.str "repair", .int 3] && (DLH.isB K "Ring" && (He.valsB K (He.ga K "ACTIONS") [("join", .adr (DLH.atG "behind_join")), ("leave", .adr (DLH.atG "behind_leave")), ("copy", .adr (DLH.atG "behind_copy")), ("settle", .adr (DLH.atG "behind_settle")), ("down", .adr (DLH.atG "behind_down")), ("up", .adr (DLH.atG "behind_up")), ("wipe", .adr (DLH.atG "behind_wipe")), ("repair", .adr (DLH.atG "behind_repair"))])))))))))))))))))) = true := c.more
  obtain ⟨e_SPREADS, e⟩ := He.ba e
  obtain ⟨e_PENDINGS, e⟩ := He.ba e
  obtain ⟨e_Ring_names, e⟩ := He.ba e
  obtain ⟨e_Ring_points, e⟩ := He.ba e
  obtain ⟨e_Ring_hosts, e⟩ := He.ba e
  obtain ⟨e_Ring_factor, e⟩ := He.ba e
  obtain ⟨e_Ring_spread, e⟩ := He.ba e
  obtain ⟨e_ttFORMS, e⟩ := He.ba e
  obtain ⟨e_ttFORMS0, e⟩ := He.ba e
  obtain ⟨e_ttFORMS1, e⟩ := He.ba e
  obtain ⟨e_ttFORMS2, e⟩ := He.ba e
  obtain ⟨e_ttFORMS3, e⟩ := He.ba e
  obtain ⟨e_ttFORMS4, e⟩ := He.ba e
  obtain ⟨e_ttFORMS5, e⟩ := He.ba e
  obtain ⟨e_ttFORMS6, e⟩ := He.ba e
  obtain ⟨e_ttFORMS7, e⟩ := He.ba e
  obtain ⟨e_isC, e⟩ := He.ba e
  have e_tabACTIONS := e
  obtain ⟨fd_purse, D_purse⟩ := c.def_ 0 (d := dd_purse) rfl
  obtain ⟨fd_draw, D_draw⟩ := c.def_ 1 (d := dd_draw) rfl
  obtain ⟨fd_walk, D_walk⟩ := c.def_ 2 (d := dd_walk) rfl
  obtain ⟨fd_is_ascending, D_is_ascending⟩ := c.def_ 3 (d := dd_is_ascending) rfl
  obtain ⟨fd_is_whole, D_is_whole⟩ := c.def_ 4 (d := dd_is_whole) rfl
  obtain ⟨fd_is_name, D_is_name⟩ := c.def_ 5 (d := dd_is_name) rfl
  obtain ⟨fd_is_word_of, D_is_word_of⟩ := c.def_ 6 (d := dd_is_word_of) rfl
  obtain ⟨fd_names, D_names⟩ := c.def_ 7 (d := dd_names) rfl
  obtain ⟨fd_taken, D_taken⟩ := c.def_ 8 (d := dd_taken) rfl
  obtain ⟨fd_check_ring, D_check_ring⟩ := c.def_ 9 (d := dd_check_ring) rfl
  have hp_Ring_names := DLH.propB_ok e_Ring_names
  obtain ⟨fd_Ring_names, D_Ring_names⟩ := c.def_ 10 (d := dd_Ring_names) rfl
  obtain ⟨fd_is_form_of, D_is_form_of⟩ := c.def_ 11 (d := dd_is_form_of) rfl
  have hp_Ring_points := DLH.propB_ok e_Ring_points
  obtain ⟨fd_Ring_points, D_Ring_points⟩ := c.def_ 12 (d := dd_Ring_points) rfl
  have hp_Ring_hosts := DLH.propB_ok e_Ring_hosts
  obtain ⟨fd_Ring_hosts, D_Ring_hosts⟩ := c.def_ 13 (d := dd_Ring_hosts) rfl
  have hp_Ring_factor := DLH.propB_ok e_Ring_factor
  obtain ⟨fd_Ring_factor, D_Ring_factor⟩ := c.def_ 14 (d := dd_Ring_factor) rfl
  have hp_Ring_spread := DLH.propB_ok e_Ring_spread
  obtain ⟨fd_Ring_spread, D_Ring_spread⟩ := c.def_ 15 (d := dd_Ring_spread) rfl
  obtain ⟨fd_Ring__way, D_Ring__way⟩ := c.def_ 16 (d := dd_Ring__way) rfl
  obtain ⟨fd_keepers, D_keepers⟩ := c.def_ 17 (d := dd_keepers) rfl
  obtain ⟨fd_is_from_to, D_is_from_to⟩ := c.def_ 18 (d := dd_is_from_to) rfl
  obtain ⟨fd_is_free_name, D_is_free_name⟩ := c.def_ 19 (d := dd_is_free_name) rfl
  obtain ⟨fd_marks, D_marks⟩ := c.def_ 20 (d := dd_marks) rfl
  obtain ⟨fd_pick, D_pick⟩ := c.def_ 21 (d := dd_pick) rfl
  obtain ⟨fd_changed, D_changed⟩ := c.def_ 22 (d := dd_changed) rfl
  obtain ⟨fd_are_free_marks, D_are_free_marks⟩ := c.def_ 23 (d := dd_are_free_marks) rfl
  obtain ⟨fd_ring, D_ring⟩ := c.def_ 24 (d := dd_ring) rfl
  obtain ⟨fd_later, D_later⟩ := c.def_ 25 (d := dd_later) rfl
  obtain ⟨fd_step, D_step⟩ := c.def_ 26 (d := dd_step) rfl
  obtain ⟨fd_Ring___contains__, D_Ring___contains__⟩ := c.def_ 27 (d := dd_Ring___contains__) rfl
  obtain ⟨fd_check_point, D_check_point⟩ := c.def_ 28 (d := dd_check_point) rfl
  obtain ⟨fd_new_racks_first, D_new_racks_first⟩ := c.def_ 29 (d := dd_new_racks_first) rfl
  obtain ⟨fd_Plan__state, D_Plan__state⟩ := c.def_ 30 (d := dd_Plan__state) rfl
  obtain ⟨fd_is_next_host, D_is_next_host⟩ := c.def_ 31 (d := dd_is_next_host) rfl
  obtain ⟨fd_steps, D_steps⟩ := c.def_ 32 (d := dd_steps) rfl
  obtain ⟨fd_can_give, D_can_give⟩ := c.def_ 33 (d := dd_can_give) rfl
  obtain ⟨fd_is_known, D_is_known⟩ := c.def_ 34 (d := dd_is_known) rfl
  obtain ⟨fd_check_name, D_check_name⟩ := c.def_ 35 (d := dd_check_name) rfl
  obtain ⟨fd_behind_settle, D_behind_settle⟩ := c.def_ 36 (d := dd_behind_settle) rfl
  obtain ⟨fd_keepers_in, D_keepers_in⟩ := c.def_ 37 (d := dd_keepers_in) rfl
  obtain ⟨fd_Ring_walk, D_Ring_walk⟩ := c.def_ 38 (d := dd_Ring_walk) rfl
  obtain ⟨fd_Plan_counting, D_Plan_counting⟩ := c.def_ 39 (d := dd_Plan_counting) rfl
  obtain ⟨fd_check_hosts, D_check_hosts⟩ := c.def_ 40 (d := dd_check_hosts) rfl
  obtain ⟨fd_behind_copy, D_behind_copy⟩ := c.def_ 41 (d := dd_behind_copy) rfl
  obtain ⟨fd_behind_down, D_behind_down⟩ := c.def_ 42 (d := dd_behind_down) rfl
  obtain ⟨fd_behind_repair, D_behind_repair⟩ := c.def_ 43 (d := dd_behind_repair) rfl
  obtain ⟨fd_behind_up, D_behind_up⟩ := c.def_ 44 (d := dd_behind_up) rfl
  obtain ⟨fd_behind_wipe, D_behind_wipe⟩ := c.def_ 45 (d := dd_behind_wipe) rfl
  obtain ⟨fd_Ring_keepers, D_Ring_keepers⟩ := c.def_ 46 (d := dd_Ring_keepers) rfl
  obtain ⟨fd_Ring___init__, D_Ring___init__⟩ := c.def_ 47 (d := dd_Ring___init__) rfl
  obtain ⟨fd_Plan_keepers, D_Plan_keepers⟩ := c.def_ 48 (d := dd_Plan_keepers) rfl
  obtain ⟨fd_Plan_pendings, D_Plan_pendings⟩ := c.def_ 49 (d := dd_Plan_pendings) rfl
  obtain ⟨fd_mint, D_mint⟩ := c.def_ 50 (d := dd_mint) rfl
  obtain ⟨fd_Ring__with_hosts, D_Ring__with_hosts⟩ := c.def_ 51 (d := dd_Ring__with_hosts) rfl
  obtain ⟨fd_Ring_joined, D_Ring_joined⟩ := c.def_ 52 (d := dd_Ring_joined) rfl
  obtain ⟨fd_Ring_left, D_Ring_left⟩ := c.def_ 53 (d := dd_Ring_left) rfl
  obtain ⟨fd_behind_join, D_behind_join⟩ := c.def_ 54 (d := dd_behind_join) rfl
  obtain ⟨fd_behind_leave, D_behind_leave⟩ := c.def_ 55 (d := dd_behind_leave) rfl
  obtain ⟨fd_behind, D_behind⟩ := c.def_ 56 (d := dd_behind) rfl
  obtain ⟨fd_states_of, D_states_of⟩ := c.def_ 57 (d := dd_states_of) rfl
  obtain ⟨fd_Plan___init__, D_Plan___init__⟩ := c.def_ 58 (d := dd_Plan___init__) rfl
  obtain ⟨fd_right, D_right⟩ := c.def_ 59 (d := dd_right) rfl
  obtain ⟨fd_law, D_law⟩ := c.def_ 60 (d := dd_law) rfl
  refine ⟨fd_law, fun s v => (FunD.bindsA (ps := P_law) D_law fun _ _ _ _ _ _ us hl => match us, hl with | [_], _ => rfl) s [v] rfl, fun base => ?_⟩
  have O_purse := ok_purse (P_ := P) (w := w) (base := base) T  D_purse (kp_purse _)
  have B_purse : Binds K fd_purse P_purse [] := D_purse.bindsN fun _ _ _ _ _ _ us hl => match us, hl with | [_, _], _ => rfl
  have F_purse : Fok P w K mg base "_law_purse" 1 2 (sd_purse _) := ⟨_, _, _, He.glo_ok KX G (c.fact 0 (f := .glo "_law_purse") rfl), D_purse.kp, B_purse, O_purse⟩
  have O_draw := ok_draw (P_ := P) (w := w) (base := base) T  D_draw (kp_draw _)
  have B_draw : Binds K fd_draw P_draw [] := D_draw.bindsN fun _ _ _ _ _ _ us hl => match us, hl with | [_, _], _ => rfl
  have F_draw : Fok P w K mg base "_law_draw" 1 2 (sd_draw _) := ⟨_, _, _, He.glo_ok KX G (c.fact 1 (f := .glo "_law_draw") rfl), D_draw.kp, B_draw, O_draw⟩
  have O_walk := ok_walk (P_ := P) (w := w) (base := base) T  D_walk (kp_walk _)
  have B_walk : Binds K fd_walk P_walk [] := D_walk.bindsN fun _ _ _ _ _ _ us hl => match us, hl with | [_, _], _ => rfl
  have F_walk : Fok P w K mg base "_law_walk" 1 2 (sd_walk _) := ⟨_, _, _, He.glo_ok KX G (c.fact 2 (f := .glo "_law_walk") rfl), D_walk.kp, B_walk, O_walk⟩
  have O_is_ascending := ok_is_ascending (P_ := P) (w := w) (base := base) T  D_is_ascending (kp_is_ascending _)
  have B_is_ascending : Binds K fd_is_ascending P_is_ascending [] := D_is_ascending.bindsN fun _ _ _ _ _ _ us hl => match us, hl with | [_], _ => rfl
  have F_is_ascending : Fok P w K mg base "is_ascending" 1 1 (sd_is_ascending _) := ⟨_, _, _, He.glo_ok KX G (c.fact 3 (f := .glo "is_ascending") rfl), D_is_ascending.kp, B_is_ascending, O_is_ascending⟩
  have O_is_whole := ok_is_whole (P_ := P) (w := w) (base := base) T  D_is_whole (kp_is_whole _)
  have B_is_whole : Binds K fd_is_whole P_is_whole [] := D_is_whole.bindsN fun _ _ _ _ _ _ us hl => match us, hl with | [_], _ => rfl
  have F_is_whole : Fok P w K mg base "is_whole" 1 1 (sd_is_whole _) := ⟨_, _, _, He.glo_ok KX G (c.fact 4 (f := .glo "is_whole") rfl), D_is_whole.kp, B_is_whole, O_is_whole⟩
  have O_is_name := ok_is_name (P_ := P) (w := w) (base := base) T  D_is_name (kp_is_name _)
  have B_is_name : Binds K fd_is_name P_is_name [] := D_is_name.bindsN fun _ _ _ _ _ _ us hl => match us, hl with | [_], _ => rfl
  have F_is_name : Fok P w K mg base "is_name" 1 1 (sd_is_name _) := ⟨_, _, _, He.glo_ok KX G (c.fact 5 (f := .glo "is_name") rfl), D_is_name.kp, B_is_name, O_is_name⟩
  have O_is_word_of := ok_is_word_of (P_ := P) (w := w) (base := base) T  D_is_word_of (kp_is_word_of _)
  have B_is_word_of : Binds K fd_is_word_of P_is_word_of [] := D_is_word_of.bindsN fun _ _ _ _ _ _ us hl => match us, hl with | [_, _], _ => rfl
  have F_is_word_of : Fok P w K mg base "is_word_of" 1 2 (sd_is_word_of _) := ⟨_, _, _, He.glo_ok KX G (c.fact 6 (f := .glo "is_word_of") rfl), D_is_word_of.kp, B_is_word_of, O_is_word_of⟩
  have O_names := ok_names (P_ := P) (w := w) (base := base) T  D_names (kp_names _)
  have B_names : Binds K fd_names P_names [] := D_names.bindsN fun _ _ _ _ _ _ us hl => match us, hl with | [_], _ => rfl
  have F_names : Fok P w K mg base "_law_names" 1 1 (sd_names _) := ⟨_, _, _, He.glo_ok KX G (c.fact 7 (f := .glo "_law_names") rfl), D_names.kp, B_names, O_names⟩
  have O_taken := ok_taken (P_ := P) (w := w) (base := base) T  D_taken (kp_taken _)
  have B_taken : Binds K fd_taken P_taken [] := D_taken.bindsN fun _ _ _ _ _ _ us hl => match us, hl with | [_], _ => rfl
  have F_taken : Fok P w K mg base "_law_taken" 1 1 (sd_taken _) := ⟨_, _, _, He.glo_ok KX G (c.fact 8 (f := .glo "_law_taken") rfl), D_taken.kp, B_taken, O_taken⟩
  have O_check_ring := ok_check_ring (P_ := P) (w := w) (base := base) T  D_check_ring (kp_check_ring _)
  have B_check_ring : Binds K fd_check_ring P_check_ring [] := D_check_ring.bindsN fun _ _ _ _ _ _ us hl => match us, hl with | [_], _ => rfl
  have F_check_ring : Fok P w K mg base "check_ring" 1 1 (sd_check_ring _) := ⟨_, _, _, He.glo_ok KX G (c.fact 9 (f := .glo "check_ring") rfl), D_check_ring.kp, B_check_ring, O_check_ring⟩
  have O_Ring_names := ok_Ring_names (P_ := P) (w := w) (base := base) T  D_Ring_names (kp_Ring_names _)
  have B_Ring_names : Binds K fd_Ring_names P_Ring_names [] := D_Ring_names.bindsN fun _ _ _ _ _ _ us hl => match us, hl with | [_], _ => rfl
  have P_Ring_names : Pok P w K mg base (He.ga K "Ring") "names" 1 (sd_Ring_names _) := ⟨T.cRing, _, _, _, _, hp_Ring_names, B_Ring_names, O_Ring_names⟩
  have O_is_form_of := ok_is_form_of (P_ := P) (w := w) (base := base) T  D_is_form_of (kp_is_form_of _)
  have B_is_form_of : Binds K fd_is_form_of P_is_form_of [] := D_is_form_of.bindsN fun _ _ _ _ _ _ us hl => match us, hl with | [_, _], _ => rfl
  have F_is_form_of : Fok P w K mg base "is_form_of" 1 2 (sd_is_form_of _) := ⟨_, _, _, He.glo_ok KX G (c.fact 10 (f := .glo "is_form_of") rfl), D_is_form_of.kp, B_is_form_of, O_is_form_of⟩
  have O_Ring_points := ok_Ring_points (P_ := P) (w := w) (base := base) T  D_Ring_points (kp_Ring_points _)
  have B_Ring_points : Binds K fd_Ring_points P_Ring_points [] := D_Ring_points.bindsN fun _ _ _ _ _ _ us hl => match us, hl with | [_], _ => rfl
  have P_Ring_points : Pok P w K mg base (He.ga K "Ring") "points" 1 (sd_Ring_points _) := ⟨T.cRing, _, _, _, _, hp_Ring_points, B_Ring_points, O_Ring_points⟩
  have O_Ring_hosts := ok_Ring_hosts (P_ := P) (w := w) (base := base) T  D_Ring_hosts (kp_Ring_hosts _)
  have B_Ring_hosts : Binds K fd_Ring_hosts P_Ring_hosts [] := D_Ring_hosts.bindsN fun _ _ _ _ _ _ us hl => match us, hl with | [_], _ => rfl
  have P_Ring_hosts : Pok P w K mg base (He.ga K "Ring") "hosts" 1 (sd_Ring_hosts _) := ⟨T.cRing, _, _, _, _, hp_Ring_hosts, B_Ring_hosts, O_Ring_hosts⟩
  have O_Ring_factor := ok_Ring_factor (P_ := P) (w := w) (base := base) T  D_Ring_factor (kp_Ring_factor _)
  have B_Ring_factor : Binds K fd_Ring_factor P_Ring_factor [] := D_Ring_factor.bindsN fun _ _ _ _ _ _ us hl => match us, hl with | [_], _ => rfl
  have P_Ring_factor : Pok P w K mg base (He.ga K "Ring") "factor" 1 (sd_Ring_factor _) := ⟨T.cRing, _, _, _, _, hp_Ring_factor, B_Ring_factor, O_Ring_factor⟩
  have O_Ring_spread := ok_Ring_spread (P_ := P) (w := w) (base := base) T  D_Ring_spread (kp_Ring_spread _)
  have B_Ring_spread : Binds K fd_Ring_spread P_Ring_spread [] := D_Ring_spread.bindsN fun _ _ _ _ _ _ us hl => match us, hl with | [_], _ => rfl
  have P_Ring_spread : Pok P w K mg base (He.ga K "Ring") "spread" 1 (sd_Ring_spread _) := ⟨T.cRing, _, _, _, _, hp_Ring_spread, B_Ring_spread, O_Ring_spread⟩
  have O_Ring__way := ok_Ring__way (P_ := P) (w := w) (base := base) T  D_Ring__way (kp_Ring__way _)
  have B_Ring__way : Binds K fd_Ring__way P_Ring__way [] := D_Ring__way.bindsN fun _ _ _ _ _ _ us hl => match us, hl with | [_, _, _], _ => rfl
  have F_Ring__way : Mok P w K mg base (He.ga K "Ring") "_way" 1 3 (sd_Ring__way _) := ⟨T.cRing, _, _, _, He.meth_ok (c.fact 11 (f := .meth "Ring" "_way") rfl), fnIn_of D_Ring__way, B_Ring__way, O_Ring__way⟩
  have O_keepers := ok_keepers (P_ := P) (w := w) (base := base) T F_walk D_keepers (kp_keepers _)
  have B_keepers : Binds K fd_keepers P_keepers [] := D_keepers.bindsN fun _ _ _ _ _ _ us hl => match us, hl with | [_, _], _ => rfl
  have F_keepers : Fok P w K mg base "_law_keepers" 2 2 (sd_keepers _) := ⟨_, _, _, He.glo_ok KX G (c.fact 12 (f := .glo "_law_keepers") rfl), D_keepers.kp, B_keepers, O_keepers⟩
  have O_is_from_to := ok_is_from_to (P_ := P) (w := w) (base := base) T F_is_whole D_is_from_to (kp_is_from_to _)
  have B_is_from_to : Binds K fd_is_from_to P_is_from_to [] := D_is_from_to.bindsN fun _ _ _ _ _ _ us hl => match us, hl with | [_, _, _], _ => rfl
  have F_is_from_to : Fok P w K mg base "is_from_to" 2 3 (sd_is_from_to _) := ⟨_, _, _, He.glo_ok KX G (c.fact 13 (f := .glo "is_from_to") rfl), D_is_from_to.kp, B_is_from_to, O_is_from_to⟩
  have O_is_free_name := ok_is_free_name (P_ := P) (w := w) (base := base) T F_is_name D_is_free_name (kp_is_free_name _)
  have B_is_free_name : Binds K fd_is_free_name P_is_free_name [] := D_is_free_name.bindsN fun _ _ _ _ _ _ us hl => match us, hl with | [_, _], _ => rfl
  have F_is_free_name : Fok P w K mg base "is_free_name" 2 2 (sd_is_free_name _) := ⟨_, _, _, He.glo_ok KX G (c.fact 14 (f := .glo "is_free_name") rfl), D_is_free_name.kp, B_is_free_name, O_is_free_name⟩
  have O_marks := ok_marks (P_ := P) (w := w) (base := base) T F_draw D_marks (kp_marks _)
  have B_marks : Binds K fd_marks P_marks [] := D_marks.bindsN fun _ _ _ _ _ _ us hl => match us, hl with | [_, _, _, _], _ => rfl
  have F_marks : Fok P w K mg base "_law_marks" 2 4 (sd_marks _) := ⟨_, _, _, He.glo_ok KX G (c.fact 15 (f := .glo "_law_marks") rfl), D_marks.kp, B_marks, O_marks⟩
  have O_pick := ok_pick (P_ := P) (w := w) (base := base) T F_draw D_pick (kp_pick _)
  have B_pick : Binds K fd_pick P_pick [] := D_pick.bindsN fun _ _ _ _ _ _ us hl => match us, hl with | [_, _], _ => rfl
  have F_pick : Fok P w K mg base "_law_pick" 2 2 (sd_pick _) := ⟨_, _, _, He.glo_ok KX G (c.fact 16 (f := .glo "_law_pick") rfl), D_pick.kp, B_pick, O_pick⟩
  have O_changed := ok_changed (P_ := P) (w := w) (base := base) T F_names F_taken D_changed (kp_changed _)
  have B_changed : Binds K fd_changed P_changed [] := D_changed.bindsN fun _ _ _ _ _ _ us hl => match us, hl with | [_, _], _ => rfl
  have F_changed : Fok P w K mg base "_law_changed" 2 2 (sd_changed _) := ⟨_, _, _, He.glo_ok KX G (c.fact 17 (f := .glo "_law_changed") rfl), D_changed.kp, B_changed, O_changed⟩
  have O_are_free_marks := ok_are_free_marks (P_ := P) (w := w) (base := base) T F_is_ascending F_is_from_to D_are_free_marks (kp_are_free_marks _)
  have B_are_free_marks : Binds K fd_are_free_marks P_are_free_marks [] := D_are_free_marks.bindsN fun _ _ _ _ _ _ us hl => match us, hl with | [_, _, _], _ => rfl
  have F_are_free_marks : Fok P w K mg base "are_free_marks" 3 3 (sd_are_free_marks _) := ⟨_, _, _, He.glo_ok KX G (c.fact 18 (f := .glo "are_free_marks") rfl), D_are_free_marks.kp, B_are_free_marks, O_are_free_marks⟩
  have O_ring := ok_ring (P_ := P) (w := w) (base := base) T F_draw F_marks F_pick D_ring (kp_ring _)
  have B_ring : Binds K fd_ring P_ring [] := D_ring.bindsN fun _ _ _ _ _ _ us hl => match us, hl with | [_, _, _], _ => rfl
  have F_ring : Fok P w K mg base "_law_ring" 3 3 (sd_ring _) := ⟨_, _, _, He.glo_ok KX G (c.fact 19 (f := .glo "_law_ring") rfl), D_ring.kp, B_ring, O_ring⟩
  have O_later := ok_later (P_ := P) (w := w) (base := base) T F_changed F_names D_later (kp_later _)
  have B_later : Binds K fd_later P_later [] := D_later.bindsN fun _ _ _ _ _ _ us hl => match us, hl with | [_, _], _ => rfl
  have F_later : Fok P w K mg base "_law_later" 3 2 (sd_later _) := ⟨_, _, _, He.glo_ok KX G (c.fact 20 (f := .glo "_law_later") rfl), D_later.kp, B_later, O_later⟩
  have O_step := ok_step (P_ := P) (w := w) (base := base) T F_draw F_marks F_names F_pick F_taken D_step (kp_step _)
  have B_step : Binds K fd_step P_step [] := D_step.bindsN fun _ _ _ _ _ _ us hl => match us, hl with | [_, _], _ => rfl
  have F_step : Fok P w K mg base "_law_step" 3 2 (sd_step _) := ⟨_, _, _, He.glo_ok KX G (c.fact 21 (f := .glo "_law_step") rfl), D_step.kp, B_step, O_step⟩
  have O_Ring___contains__ := ok_Ring___contains__ (P_ := P) (w := w) (base := base) T P_Ring_names F_is_word_of D_Ring___contains__ (kp_Ring___contains__ _)
  have B_Ring___contains__ : Binds K fd_Ring___contains__ P_Ring___contains__ [] := D_Ring___contains__.bindsN fun _ _ _ _ _ _ us hl => match us, hl with | [_, _], _ => rfl
  have F_Ring___contains__ : Mok P w K mg base (He.ga K "Ring") "__contains__" 3 2 (sd_Ring___contains__ _) := ⟨T.cRing, _, _, _, He.meth_ok (c.fact 22 (f := .meth "Ring" "__contains__") rfl), fnIn_of D_Ring___contains__, B_Ring___contains__, O_Ring___contains__⟩
  have O_check_point := ok_check_point (P_ := P) (w := w) (base := base) T P_Ring_points F_is_from_to D_check_point (kp_check_point _)
  have B_check_point : Binds K fd_check_point P_check_point [] := D_check_point.bindsN fun _ _ _ _ _ _ us hl => match us, hl with | [_, _], _ => rfl
  have F_check_point : Fok P w K mg base "check_point" 3 2 (sd_check_point _) := ⟨_, _, _, He.glo_ok KX G (c.fact 23 (f := .glo "check_point") rfl), D_check_point.kp, B_check_point, O_check_point⟩
  have O_new_racks_first := ok_new_racks_first (P_ := P) (w := w) (base := base) T P_Ring_hosts D_new_racks_first (kp_new_racks_first _)
  have B_new_racks_first : Binds K fd_new_racks_first P_new_racks_first [] := D_new_racks_first.bindsN fun _ _ _ _ _ _ us hl => match us, hl with | [_, _], _ => rfl
  have F_new_racks_first : Fok P w K mg base "new_racks_first" 3 2 (sd_new_racks_first _) := ⟨_, _, _, He.glo_ok KX G (c.fact 24 (f := .glo "new_racks_first") rfl), D_new_racks_first.kp, B_new_racks_first, O_new_racks_first⟩
  have O_Plan__state := ok_Plan__state (P_ := P) (w := w) (base := base) T F_is_from_to D_Plan__state (kp_Plan__state _ _)
  have B_Plan__state : Binds K fd_Plan__state P_Plan__state [] := D_Plan__state.bindsN fun _ _ _ _ _ _ us hl => match us, hl with | [_, _], _ => rfl
  have F_Plan__state : Mok P w K mg base (He.ga K "Plan") "_state" 3 2 (sd_Plan__state _ _) := ⟨T.cPlan, _, _, _, He.meth_ok (c.fact 25 (f := .meth "Plan" "_state") rfl), fnIn_of D_Plan__state, B_Plan__state, O_Plan__state⟩
  have O_is_next_host := ok_is_next_host (P_ := P) (w := w) (base := base) T F_are_free_marks F_is_free_name F_is_name D_is_next_host (kp_is_next_host _)
  have B_is_next_host : Binds K fd_is_next_host P_is_next_host [] := D_is_next_host.bindsN fun _ _ _ _ _ _ us hl => match us, hl with | [_, _, _], _ => rfl
  have F_is_next_host : Fok P w K mg base "is_next_host" 4 3 (sd_is_next_host _) := ⟨_, _, _, He.glo_ok KX G (c.fact 26 (f := .glo "is_next_host") rfl), D_is_next_host.kp, B_is_next_host, O_is_next_host⟩
  have O_steps := ok_steps (P_ := P) (w := w) (base := base) T F_later F_step D_steps (kp_steps _)
  have B_steps : Binds K fd_steps P_steps [] := D_steps.bindsN fun _ _ _ _ _ _ us hl => match us, hl with | [_, _, _], _ => rfl
  have F_steps : Fok P w K mg base "_law_steps" 4 3 (sd_steps _) := ⟨_, _, _, He.glo_ok KX G (c.fact 27 (f := .glo "_law_steps") rfl), D_steps.kp, B_steps, O_steps⟩
  have O_can_give := ok_can_give (P_ := P) (w := w) (base := base) T F_Ring___contains__ D_can_give (kp_can_give _)
  have B_can_give : Binds K fd_can_give P_can_give [] := D_can_give.bindsN fun _ _ _ _ _ _ us hl => match us, hl with | [_, _, _], _ => rfl
  have F_can_give : Fok P w K mg base "can_give" 4 3 (sd_can_give _) := ⟨_, _, _, He.glo_ok KX G (c.fact 28 (f := .glo "can_give") rfl), D_can_give.kp, B_can_give, O_can_give⟩
  have O_is_known := ok_is_known (P_ := P) (w := w) (base := base) T F_Ring___contains__ D_is_known (kp_is_known _)
  have B_is_known : Binds K fd_is_known P_is_known [] := D_is_known.bindsN fun _ _ _ _ _ _ us hl => match us, hl with | [_, _], _ => rfl
  have F_is_known : Fok P w K mg base "is_known" 4 2 (sd_is_known _) := ⟨_, _, _, He.glo_ok KX G (c.fact 29 (f := .glo "is_known") rfl), D_is_known.kp, B_is_known, O_is_known⟩
  have O_check_name := ok_check_name (P_ := P) (w := w) (base := base) T F_Ring___contains__ D_check_name (kp_check_name _)
  have B_check_name : Binds K fd_check_name P_check_name [] := D_check_name.bindsN fun _ _ _ _ _ _ us hl => match us, hl with | [_, _], _ => rfl
  have F_check_name : Fok P w K mg base "check_name" 4 2 (sd_check_name _) := ⟨_, _, _, He.glo_ok KX G (c.fact 30 (f := .glo "check_name") rfl), D_check_name.kp, B_check_name, O_check_name⟩
  have O_behind_settle := ok_behind_settle (P_ := P) (w := w) (base := base) T F_Ring___contains__ D_behind_settle (kp_behind_settle _)
  have B_behind_settle : Binds K fd_behind_settle P_behind_settle [] := D_behind_settle.bindsN fun _ _ _ _ _ _ us hl => match us, hl with | [_, _], _ => rfl
  have F_behind_settle : Fok P w K mg base "behind_settle" 4 2 (sd_behind_settle _) := ⟨_, _, _, He.glo_ok KX G (c.fact 31 (f := .glo "behind_settle") rfl), D_behind_settle.kp, B_behind_settle, O_behind_settle⟩
  have O_keepers_in := ok_keepers_in (P_ := P) (w := w) (base := base) T P_Ring_factor P_Ring_spread F_new_racks_first D_keepers_in (kp_keepers_in _)
  have B_keepers_in : Binds K fd_keepers_in P_keepers_in [] := D_keepers_in.bindsN fun _ _ _ _ _ _ us hl => match us, hl with | [_, _], _ => rfl
  have F_keepers_in : Fok P w K mg base "keepers_in" 4 2 (sd_keepers_in _) := ⟨_, _, _, He.glo_ok KX G (c.fact 32 (f := .glo "keepers_in") rfl), D_keepers_in.kp, B_keepers_in, O_keepers_in⟩
  have O_Ring_walk := ok_Ring_walk (P_ := P) (w := w) (base := base) T F_Ring__way F_check_point D_Ring_walk (kp_Ring_walk _)
  have B_Ring_walk : Binds K fd_Ring_walk P_Ring_walk [] := D_Ring_walk.bindsN fun _ _ _ _ _ _ us hl => match us, hl with | [_, _], _ => rfl
  have F_Ring_walk : Mok P w K mg base (He.ga K "Ring") "walk" 4 2 (sd_Ring_walk _) := ⟨T.cRing, _, _, _, He.meth_ok (c.fact 33 (f := .meth "Ring" "walk") rfl), fnIn_of D_Ring_walk, B_Ring_walk, O_Ring_walk⟩
  have O_Plan_counting := ok_Plan_counting (P_ := P) (w := w) (base := base) T F_Plan__state D_Plan_counting (kp_Plan_counting _ _)
  have B_Plan_counting : Binds K fd_Plan_counting P_Plan_counting [] := D_Plan_counting.bindsN fun _ _ _ _ _ _ us hl => match us, hl with | [_, _], _ => rfl
  have F_Plan_counting : Mok P w K mg base (He.ga K "Plan") "counting" 4 2 (sd_Plan_counting _ _) := ⟨T.cPlan, _, _, _, He.meth_ok (c.fact 34 (f := .meth "Plan" "counting") rfl), fnIn_of D_Plan_counting, B_Plan_counting, O_Plan_counting⟩
  have O_check_hosts := ok_check_hosts (P_ := P) (w := w) (base := base) T F_is_next_host D_check_hosts (kp_check_hosts _)
  have B_check_hosts : Binds K fd_check_hosts P_check_hosts [] := D_check_hosts.bindsN fun _ _ _ _ _ _ us hl => match us, hl with | [_, _], _ => rfl
  have F_check_hosts : Fok P w K mg base "check_hosts" 5 2 (sd_check_hosts _) := ⟨_, _, _, He.glo_ok KX G (c.fact 35 (f := .glo "check_hosts") rfl), D_check_hosts.kp, B_check_hosts, O_check_hosts⟩
  have O_behind_copy := ok_behind_copy (P_ := P) (w := w) (base := base) T F_Ring___contains__ F_can_give D_behind_copy (kp_behind_copy _)
  have B_behind_copy : Binds K fd_behind_copy P_behind_copy [] := D_behind_copy.bindsN fun _ _ _ _ _ _ us hl => match us, hl with | [_, _], _ => rfl
  have F_behind_copy : Fok P w K mg base "behind_copy" 5 2 (sd_behind_copy _) := ⟨_, _, _, He.glo_ok KX G (c.fact 36 (f := .glo "behind_copy") rfl), D_behind_copy.kp, B_behind_copy, O_behind_copy⟩
  have O_behind_down := ok_behind_down (P_ := P) (w := w) (base := base) T F_is_known D_behind_down (kp_behind_down _)
  have B_behind_down : Binds K fd_behind_down P_behind_down [] := D_behind_down.bindsN fun _ _ _ _ _ _ us hl => match us, hl with | [_, _], _ => rfl
  have F_behind_down : Fok P w K mg base "behind_down" 5 2 (sd_behind_down _) := ⟨_, _, _, He.glo_ok KX G (c.fact 37 (f := .glo "behind_down") rfl), D_behind_down.kp, B_behind_down, O_behind_down⟩
  have O_behind_repair := ok_behind_repair (P_ := P) (w := w) (base := base) T F_Ring___contains__ F_can_give D_behind_repair (kp_behind_repair _)
  have B_behind_repair : Binds K fd_behind_repair P_behind_repair [] := D_behind_repair.bindsN fun _ _ _ _ _ _ us hl => match us, hl with | [_, _], _ => rfl
  have F_behind_repair : Fok P w K mg base "behind_repair" 5 2 (sd_behind_repair _) := ⟨_, _, _, He.glo_ok KX G (c.fact 38 (f := .glo "behind_repair") rfl), D_behind_repair.kp, B_behind_repair, O_behind_repair⟩
  have O_behind_up := ok_behind_up (P_ := P) (w := w) (base := base) T F_is_known D_behind_up (kp_behind_up _)
  have B_behind_up : Binds K fd_behind_up P_behind_up [] := D_behind_up.bindsN fun _ _ _ _ _ _ us hl => match us, hl with | [_, _], _ => rfl
  have F_behind_up : Fok P w K mg base "behind_up" 5 2 (sd_behind_up _) := ⟨_, _, _, He.glo_ok KX G (c.fact 39 (f := .glo "behind_up") rfl), D_behind_up.kp, B_behind_up, O_behind_up⟩
  have O_behind_wipe := ok_behind_wipe (P_ := P) (w := w) (base := base) T F_is_known D_behind_wipe (kp_behind_wipe _)
  have B_behind_wipe : Binds K fd_behind_wipe P_behind_wipe [] := D_behind_wipe.bindsN fun _ _ _ _ _ _ us hl => match us, hl with | [_, _], _ => rfl
  have F_behind_wipe : Fok P w K mg base "behind_wipe" 5 2 (sd_behind_wipe _) := ⟨_, _, _, He.glo_ok KX G (c.fact 40 (f := .glo "behind_wipe") rfl), D_behind_wipe.kp, B_behind_wipe, O_behind_wipe⟩
  have O_Ring_keepers := ok_Ring_keepers (P_ := P) (w := w) (base := base) T F_Ring_walk F_keepers_in D_Ring_keepers (kp_Ring_keepers _)
  have B_Ring_keepers : Binds K fd_Ring_keepers P_Ring_keepers [] := D_Ring_keepers.bindsN fun _ _ _ _ _ _ us hl => match us, hl with | [_, _], _ => rfl
  have F_Ring_keepers : Mok P w K mg base (He.ga K "Ring") "keepers" 5 2 (sd_Ring_keepers _) := ⟨T.cRing, _, _, _, He.meth_ok (c.fact 41 (f := .meth "Ring" "keepers") rfl), fnIn_of D_Ring_keepers, B_Ring_keepers, O_Ring_keepers⟩
  have O_Ring___init__ := ok_Ring___init__ (P_ := P) (w := w) (base := base) T F_check_hosts F_is_from_to F_is_word_of D_Ring___init__ (kp_Ring___init__ _)
  have B_Ring___init__ : Binds K fd_Ring___init__ P_Ring___init__ [] := D_Ring___init__.bindsN fun _ _ _ _ _ _ us hl => match us, hl with | [_, _, _, _, _, _, _, _], _ => rfl
  have F_Ring : Kok P w K mg base "Ring" (He.ga K "Ring") 6 8 (sd_Ring___init__ _) := ⟨_, _, _, He.glo_ok KX G (c.fact 56 (f := .glo "Ring") rfl), He.mkr_ok (c.fact 58 (f := .mkr "Ring") rfl), B_Ring___init__, O_Ring___init__⟩
  have O_Plan_keepers := ok_Plan_keepers (P_ := P) (w := w) (base := base) T F_Plan_counting F_Ring_keepers F_check_point D_Plan_keepers (kp_Plan_keepers _ _)
  have B_Plan_keepers : Binds K fd_Plan_keepers P_Plan_keepers [] := D_Plan_keepers.bindsN fun _ _ _ _ _ _ us hl => match us, hl with | [_, _, _], _ => rfl
  have F_Plan_keepers : Mok P w K mg base (He.ga K "Plan") "keepers" 6 3 (sd_Plan_keepers _ _) := ⟨T.cPlan, _, _, _, He.meth_ok (c.fact 43 (f := .meth "Plan" "keepers") rfl), fnIn_of D_Plan_keepers, B_Plan_keepers, O_Plan_keepers⟩
  have FP_Plan_keepers : MokP P w K mg base (He.ga K "Plan") "keepers" 6 3 ["moment", "point"] [1, 0] (sd_Plan_keepers _ _) := ⟨T.cPlan, _, _, _, He.meth_ok (c.fact 43 (f := .meth "Plan" "keepers") rfl), fun s us ws l1 l2 => by
    obtain ⟨oc, od, dV, kV, doc, pm, an, cdv, ct, osl, rfl, lk, hcd, hD, hK⟩ := D_Plan_keepers.ex
    rcases hD with ⟨_, rfl⟩ | ⟨e, _⟩
    · exact .of_eq (match us, ws, l1, l2 with | [_], [_, _], _, _ => rfl)
    · exact absurd rfl e, O_Plan_keepers⟩
  have O_Plan_pendings := ok_Plan_pendings (P_ := P) (w := w) (base := base) T F_Plan__state F_Ring_keepers F_check_point D_Plan_pendings (kp_Plan_pendings _ _)
  have B_Plan_pendings : Binds K fd_Plan_pendings P_Plan_pendings [] := D_Plan_pendings.bindsN fun _ _ _ _ _ _ us hl => match us, hl with | [_, _, _], _ => rfl
  have F_Plan_pendings : Mok P w K mg base (He.ga K "Plan") "pendings" 6 3 (sd_Plan_pendings _ _) := ⟨T.cPlan, _, _, _, He.meth_ok (c.fact 44 (f := .meth "Plan" "pendings") rfl), fnIn_of D_Plan_pendings, B_Plan_pendings, O_Plan_pendings⟩
  have FP_Plan_pendings : MokP P w K mg base (He.ga K "Plan") "pendings" 6 3 ["moment", "point"] [1, 0] (sd_Plan_pendings _ _) := ⟨T.cPlan, _, _, _, He.meth_ok (c.fact 44 (f := .meth "Plan" "pendings") rfl), fun s us ws l1 l2 => by
    obtain ⟨oc, od, dV, kV, doc, pm, an, cdv, ct, osl, rfl, lk, hcd, hD, hK⟩ := D_Plan_pendings.ex
    rcases hD with ⟨_, rfl⟩ | ⟨e, _⟩
    · exact .of_eq (match us, ws, l1, l2 with | [_], [_, _], _, _ => rfl)
    · exact absurd rfl e, O_Plan_pendings⟩
  have O_mint := ok_mint (P_ := P) (w := w) (base := base) T F_Ring D_mint (kp_mint _)
  have B_mint : Binds K fd_mint P_mint [] := D_mint.bindsN fun _ _ _ _ _ _ us hl => match us, hl with | [_], _ => rfl
  have F_mint : Fok P w K mg base "_law_made" 8 1 (sd_mint _) := ⟨_, _, _, He.glo_ok KX G (c.fact 45 (f := .glo "_law_made") rfl), D_mint.kp, B_mint, O_mint⟩
  have O_Ring__with_hosts := ok_Ring__with_hosts (P_ := P) (w := w) (base := base) T F_Ring D_Ring__with_hosts (kp_Ring__with_hosts _)
  have B_Ring__with_hosts : Binds K fd_Ring__with_hosts P_Ring__with_hosts [] := D_Ring__with_hosts.bindsN fun _ _ _ _ _ _ us hl => match us, hl with | [_, _], _ => rfl
  have F_Ring__with_hosts : Mok P w K mg base (He.ga K "Ring") "_with_hosts" 8 2 (sd_Ring__with_hosts _) := ⟨T.cRing, _, _, _, He.meth_ok (c.fact 46 (f := .meth "Ring" "_with_hosts") rfl), fnIn_of D_Ring__with_hosts, B_Ring__with_hosts, O_Ring__with_hosts⟩
  have O_Ring_joined := ok_Ring_joined (P_ := P) (w := w) (base := base) T F_Ring__with_hosts F_are_free_marks F_is_free_name F_is_name D_Ring_joined (kp_Ring_joined _)
  have B_Ring_joined : Binds K fd_Ring_joined P_Ring_joined [] := D_Ring_joined.bindsN fun _ _ _ _ _ _ us hl => match us, hl with | [_, _, _, _], _ => rfl
  have F_Ring_joined : Mok P w K mg base (He.ga K "Ring") "joined" 9 4 (sd_Ring_joined _) := ⟨T.cRing, _, _, _, He.meth_ok (c.fact 47 (f := .meth "Ring" "joined") rfl), fnIn_of D_Ring_joined, B_Ring_joined, O_Ring_joined⟩
  have O_Ring_left := ok_Ring_left (P_ := P) (w := w) (base := base) T F_Ring__with_hosts F_check_name D_Ring_left (kp_Ring_left _)
  have B_Ring_left : Binds K fd_Ring_left P_Ring_left [] := D_Ring_left.bindsN fun _ _ _ _ _ _ us hl => match us, hl with | [_, _], _ => rfl
  have F_Ring_left : Mok P w K mg base (He.ga K "Ring") "left" 9 2 (sd_Ring_left _) := ⟨T.cRing, _, _, _, He.meth_ok (c.fact 48 (f := .meth "Ring" "left") rfl), fnIn_of D_Ring_left, B_Ring_left, O_Ring_left⟩
  have O_behind_join := ok_behind_join (P_ := P) (w := w) (base := base) T F_Ring_joined D_behind_join (kp_behind_join _)
  have B_behind_join : Binds K fd_behind_join P_behind_join [] := D_behind_join.bindsN fun _ _ _ _ _ _ us hl => match us, hl with | [_, _], _ => rfl
  have F_behind_join : Fok P w K mg base "behind_join" 10 2 (sd_behind_join _) := ⟨_, _, _, He.glo_ok KX G (c.fact 49 (f := .glo "behind_join") rfl), D_behind_join.kp, B_behind_join, O_behind_join⟩
  have O_behind_leave := ok_behind_leave (P_ := P) (w := w) (base := base) T F_Ring_left D_behind_leave (kp_behind_leave _)
  have B_behind_leave : Binds K fd_behind_leave P_behind_leave [] := D_behind_leave.bindsN fun _ _ _ _ _ _ us hl => match us, hl with | [_, _], _ => rfl
  have F_behind_leave : Fok P w K mg base "behind_leave" 10 2 (sd_behind_leave _) := ⟨_, _, _, He.glo_ok KX G (c.fact 50 (f := .glo "behind_leave") rfl), D_behind_leave.kp, B_behind_leave, O_behind_leave⟩
  have H_ACTIONS : Disp P w K mg base "ACTIONS" 10 2 [("join", sd_behind_join (He.ga K "Ring")), ("leave", sd_behind_leave (He.ga K "Ring")), ("copy", sd_behind_copy (He.ga K "Ring")), ("settle", sd_behind_settle (He.ga K "Ring")), ("down", sd_behind_down (He.ga K "Ring")), ("up", sd_behind_up (He.ga K "Ring")), ("wipe", sd_behind_wipe (He.ga K "Ring")), ("repair", sd_behind_repair (He.ga K "Ring"))] := by
    obtain ⟨es, n, h1, h2⟩ := cq.tab 0
    refine ⟨_, He.glo_ok KX G (c.fact 62 (f := .glo "ACTIONS") rfl), fun z sd hz => ?_⟩
    simp only [List.lookup] at hz
    by_cases e0 : z = ("join" : Str)
    · subst e0; cases hz; exact ⟨_, fd_behind_join, P_behind_join, DLH.kd_of h1 h2 e_tabACTIONS (v := .adr (DLH.atG "behind_join")) (List.mem_of_getElem? (i := 0) (by rfl)), D_behind_join.kp, B_behind_join, (O_behind_join).mono (by decide)⟩
    rw [show (z == ("join" : Str)) = false from beq_eq_false_iff_ne.mpr e0] at hz
    by_cases e1 : z = ("leave" : Str)
    · subst e1; cases hz; exact ⟨_, fd_behind_leave, P_behind_leave, DLH.kd_of h1 h2 e_tabACTIONS (v := .adr (DLH.atG "behind_leave")) (List.mem_of_getElem? (i := 1) (by rfl)), D_behind_leave.kp, B_behind_leave, (O_behind_leave).mono (by decide)⟩
    rw [show (z == ("leave" : Str)) = false from beq_eq_false_iff_ne.mpr e1] at hz
    by_cases e2 : z = ("copy" : Str)
    · subst e2; cases hz; exact ⟨_, fd_behind_copy, P_behind_copy, DLH.kd_of h1 h2 e_tabACTIONS (v := .adr (DLH.atG "behind_copy")) (List.mem_of_getElem? (i := 2) (by rfl)), D_behind_copy.kp, B_behind_copy, (O_behind_copy).mono (by decide)⟩
    rw [show (z == ("copy" : Str)) = false from beq_eq_false_iff_ne.mpr e2] at hz
    by_cases e3 : z = ("settle" : Str)
    · subst e3; cases hz; exact ⟨_, fd_behind_settle, P_behind_settle, DLH.kd_of h1 h2 e_tabACTIONS (v := .adr (DLH.atG "behind_settle")) (List.mem_of_getElem? (i := 3) (by rfl)), D_behind_settle.kp, B_behind_settle, (O_behind_settle).mono (by decide)⟩
    rw [show (z == ("settle" : Str)) = false from beq_eq_false_iff_ne.mpr e3] at hz
    by_cases e4 : z = ("down" : Str)
    · subst e4; cases hz; exact ⟨_, fd_behind_down, P_behind_down, DLH.kd_of h1 h2 e_tabACTIONS (v := .adr (DLH.atG "behind_down")) (List.mem_of_getElem? (i := 4) (by rfl)), D_behind_down.kp, B_behind_down, (O_behind_down).mono (by decide)⟩
    rw [show (z == ("down" : Str)) = false from beq_eq_false_iff_ne.mpr e4] at hz
    by_cases e5 : z = ("up" : Str)
    · subst e5; cases hz; exact ⟨_, fd_behind_up, P_behind_up, DLH.kd_of h1 h2 e_tabACTIONS (v := .adr (DLH.atG "behind_up")) (List.mem_of_getElem? (i := 5) (by rfl)), D_behind_up.kp, B_behind_up, (O_behind_up).mono (by decide)⟩
    rw [show (z == ("up" : Str)) = false from beq_eq_false_iff_ne.mpr e5] at hz
    by_cases e6 : z = ("wipe" : Str)
    · subst e6; cases hz; exact ⟨_, fd_behind_wipe, P_behind_wipe, DLH.kd_of h1 h2 e_tabACTIONS (v := .adr (DLH.atG "behind_wipe")) (List.mem_of_getElem? (i := 6) (by rfl)), D_behind_wipe.kp, B_behind_wipe, (O_behind_wipe).mono (by decide)⟩
    rw [show (z == ("wipe" : Str)) = false from beq_eq_false_iff_ne.mpr e6] at hz
    by_cases e7 : z = ("repair" : Str)
    · subst e7; cases hz; exact ⟨_, fd_behind_repair, P_behind_repair, DLH.kd_of h1 h2 e_tabACTIONS (v := .adr (DLH.atG "behind_repair")) (List.mem_of_getElem? (i := 7) (by rfl)), D_behind_repair.kp, B_behind_repair, (O_behind_repair).mono (by decide)⟩
    rw [show (z == ("repair" : Str)) = false from beq_eq_false_iff_ne.mpr e7] at hz
    cases hz
  have O_behind := ok_behind (P_ := P) (w := w) (base := base) T H_ACTIONS F_is_form_of D_behind (kp_behind _)
  have B_behind : Binds K fd_behind P_behind [] := D_behind.bindsN fun _ _ _ _ _ _ us hl => match us, hl with | [_, _], _ => rfl
  have F_behind : Fok P w K mg base "behind" 11 2 (sd_behind _) := ⟨_, _, _, He.glo_ok KX G (c.fact 51 (f := .glo "behind") rfl), D_behind.kp, B_behind, O_behind⟩
  have O_states_of := ok_states_of (P_ := P) (w := w) (base := base) T F_behind D_states_of (kp_states_of _)
  have B_states_of : Binds K fd_states_of P_states_of [] := D_states_of.bindsN fun _ _ _ _ _ _ us hl => match us, hl with | [_, _], _ => rfl
  have F_states_of : Fok P w K mg base "states_of" 12 2 (sd_states_of _) := ⟨_, _, _, He.glo_ok KX G (c.fact 52 (f := .glo "states_of") rfl), D_states_of.kp, B_states_of, O_states_of⟩
  have O_Plan___init__ := ok_Plan___init__ (P_ := P) (w := w) (base := base) T F_check_ring F_states_of D_Plan___init__ (kp_Plan___init__ _ _)
  have B_Plan___init__ : Binds K fd_Plan___init__ P_Plan___init__ [] := by
    obtain ⟨ds, rv, B⟩ := FunD.binds1 (ps := P_Plan___init__) D_Plan___init__ 3 1 (List.cons_ne_nil _ _) rfl (fun T kV doc pm an cdv ct us its h1 h2 => match us, its, h1, h2 with | [_, _, _], [_], _, _ => ⟨_, rfl, rfl⟩)
    have rv' : Vals [] ds := rv
    cases rv'
    exact B
  have F_Plan : Kok P w K mg base "Plan" (He.ga K "Plan") 13 3 (sd_Plan___init__ _ _) := ⟨_, _, _, He.glo_ok KX G (c.fact 59 (f := .glo "Plan") rfl), He.mkr_ok (c.fact 61 (f := .mkr "Plan") rfl), B_Plan___init__, O_Plan___init__⟩
  have O_right := ok_right (P_ := P) (w := w) (base := base) T F_Plan F_Plan_keepers FP_Plan_keepers F_Plan_pendings FP_Plan_pendings F_draw F_keepers F_mint F_ring F_steps D_right (kp_right _ _)
  have B_right : Binds K fd_right P_right [] := D_right.bindsN fun _ _ _ _ _ _ us hl => match us, hl with | [_], _ => rfl
  have F_right : Fgd P w K mg base "_law_right" 15 1 (sd_right _ _) := ⟨_, _, _, He.glo_ok KX G (c.fact 54 (f := .glo "_law_right") rfl), D_right.kp, B_right, O_right⟩
  exact ok_law T F_purse F_right D_law (kp_law _ _)
end
end L31
set_option maxRecDepth 100000
set_option maxHeartbeats 4000000
namespace DL
open PySem PySem.Spec PyProof.Rows L2
section
variable {P : Program} {w : World} {K : PySem.W.Frag} {mg mb : Str → Option Value} {k : Nat} {l c : Addr} {fd : FuncData} {x : Str} {sp : Sp} {s : Shared} {us : List Value} {ns : List Int}
/-- nothing but the cell c is told of, and that is no object of the text -/
structure Lone (P : Program) (w : World) (K : PySem.W.Frag) (s : Shared) (c : Addr) (T : Hp) : Prop where
  only : Only T
  hok : HOk P w T s.heap
  one : ∀ b, T b ≠ none → b = c
  out : T c ≠ none → K.lookup c = none
theorem Lone.env {T : Hp} (L : Lone P w K s c T) (KX : K.In s.heap) (g1 : s.heap.Ns mainGlobals mg) (g2 : s.heap.Ns builtinsNs mb) (g3 : ∀ x : Str, x ≠ "__name__" → mb x = bootBuiltins x) (g4 : s.heap.NoLimit) (g5 : s.gens = #[])
    (hc : s.heap.get? c = some { cls := .type "list", data := .seq us.toArray }) : Env0 P w K mg (hidT s.heap T) callerA [] s T := by
  have free : ∀ {b : Addr} {o : Obj} {es : Array DictEntry} {n : Nat}, s.heap.get? b = some o → o.data = .dict es n → T b = none := by
    intro b o es n e d
    by_cases q : T b = none
    · exact q
    · have eb := L.one b q
      rw [eb, hc] at e
      cases e
      cases d
  have space : ∀ {b : Addr} {m : Str → Option Value}, s.heap.Ns b m → (hidT s.heap T).Ns b m := by
    rintro b m ⟨o, es, n, e, d, r⟩
    exact ⟨o, es, n, hidT_get e (free e d), d, r⟩
  have inK : K.In (hidT s.heap T) := by
    intro b o e
    refine hidT_get (KX b o e) ?_
    by_cases q : T b = none
    · exact q
    · have eb := L.one b q
      rw [eb] at q e
      rw [L.out q] at e
      cases e
  obtain ⟨mc, n1, n2⟩ := g4
  exact ⟨rfl, ⟨inK, space g1, ⟨mb, space g2, g3⟩, ⟨mc, space n1, n2⟩⟩, fun b o e => of_hidT e, Nat.le_of_eq (hidT_size _ _), trivial, fun b hb => (nomatch (show b ∈ ([] : List Addr) from hb)), L.hok, .of_eq g5⟩
theorem Lone.run {T : Hp} (L : Lone P w K s c T) (e0 : ∀ (base : Heap), FnG P w K mg base k l fd [x] sp) (ev : Env0 P w K mg (hidT s.heap T) callerA [] s T) (hr : Room k callerA) (bi : BindsTo s fd ⟨[.ref c], []⟩ [(x, .ref c)])
    (pr : sp [.ref c] T (fun v _ => v = .bl true) fun _ _ _ => False) : codeAny (model P w) callerA (.call (.ref l) ⟨[.ref c], []⟩) (fun r s' => r = .ok (.ret (.bool true)) ∧ OldK s.heap s'.heap ∧ s'.os = s.os ∧ AllBare s'.gens) s := by
  have one : Vals [V.ref c] [Value.ref c] := .cons rfl .nil
  refine codeAny_mono ((e0 _).run callerA [] s T ⟨[.ref c], []⟩ [.ref c] [.ref c] _ _ hr rfl ev bi one pr) ?_
  intro r s' z
  match r, z with
  | .error e, z =>
    obtain ⟨_, _, _, _, _, _, _, _, _, _, _, _, f⟩ := z
    exact f.elim
  | .ok .next, z => exact z.elim
  | .ok .brk, z => exact z.elim
  | .ok .cont, z => exact z.elim
  | .ok (.ret u), z =>
    obtain ⟨v, T', z1, z2, z3, z4, z5, z6⟩ := z
    have e6 : v = .bl true := z6
    subst e6
    have e5 : u = Value.bool true := z5
    subst e5
    refine ⟨rfl, OldK.of_keep ?_, z1, z2⟩
    intro b o e
    rcases L.only b with q | ⟨ob, xs, q⟩
    · exact z3.keep b o e q (fun m => nomatch (show b ∈ ([] : List Addr) from m)) (by simp)
    · obtain ⟨a1, _⟩ := L.hok b _ q
      obtain ⟨a2, _⟩ := z4 b _ (z3.frzs b ob _ q)
      rw [e] at a1
      cases a1
      exact a2
theorem end_G (KX : K.In s.heap) (g1 : s.heap.Ns mainGlobals mg) (g2 : s.heap.Ns builtinsNs mb) (g3 : ∀ x : Str, x ≠ "__name__" → mb x = bootBuiltins x) (g4 : s.heap.NoLimit) (g5 : s.gens = #[])
    (hc : s.heap.get? c = some { cls := .type "list", data := .seq us.toArray }) (hi : IntsAre us ns) (hz : ns.length ≤ sizeLine) (hr : Room k callerA) (F : ∀ base : Heap, FnG P w K mg base k l fd [x] sp) (bi : ∀ (s : Shared) (u : Value), BindsTo s fd ⟨[u], []⟩ [(x, u)])
    (pr : ∀ T : Hp, SqL K T c (ns.map V.int) → sp [.ref c] T (fun v _ => v = .bl true) fun _ _ _ => False) :
    codeAny (model P w) callerA (.call (.ref l) ⟨[.ref c], []⟩) (fun r s' => r = .ok (.ret (.bool true)) ∧ OldK s.heap s'.heap ∧ s'.os = s.os ∧ AllBare s'.gens) s := by
  have rv := vals_ints hi
  have fin : ∀ T : Hp, Lone P w K s c T → SqL K T c (ns.map V.int) → _ := fun T L q => L.run F (L.env KX g1 g2 g3 g4 g5 hc) hr (bi s (.ref c)) (pr T q)
  cases hk : K.lookup c with
  | some o =>
    have e := KX c o hk
    rw [hc] at e
    cases e
    refine fin (fun _ => none) ⟨fun _ => .inl rfl, fun b u z => (nomatch z), fun b z => absurd rfl z, fun z => absurd rfl z⟩ (.inr ⟨_, us.toArray, _, hk, rfl, rfl, rfl, ?_, by simpa using rv⟩)
    rw [List.size_toArray, hi.length]; exact hz
  | none =>
    let T : Hp := fun b => if b = c then some (.frz { cls := .type "list", data := .seq us.toArray } (.lst (ns.map V.int))) else none
    have Tc : T c = some (.frz { cls := .type "list", data := .seq us.toArray } (.lst (ns.map V.int))) := if_pos rfl
    have Tn : ∀ b, b ≠ c → T b = none := fun b hb => if_neg hb
    refine fin T ⟨fun b => ?_, fun b u z => ?_, fun b z => ?_, fun _ => hk⟩ (.inl (.inr ⟨_, Tc⟩))
    · by_cases hb : b = c
      · rw [hb]; exact .inr ⟨_, _, Tc⟩
      · exact .inl (Tn b hb)
    · by_cases hb : b = c
      · rw [hb, Tc] at z
        cases z
        rw [hb]
        exact ⟨hc, by rw [List.length_map]; exact hz, us, _, rv, hc⟩
      · rw [Tn b hb] at z; cases z
    · by_cases hb : b = c
      · exact hb
      · exact absurd (Tn b hb) z
end
end DL
set_option maxRecDepth 100000
set_option maxHeartbeats 4000000
namespace L31
open PySem PySem.Spec PyProof.Rows L2 DL R
theorem law_promise {K : PySem.W.Frag} {C P : Addr} {T : Hp} {a : Addr} {ns : List Int} (hS : SqL K T a (ns.map V.int)) (h63 : ns.length ≤ 63) (hb : ∀ n ∈ ns, Builtin.Int.intBits n ≤ 1048576) : spOf K 1 (sd_law C P) [.ref a] T (fun v _ => v = .bl true) fun _ _ _ => False :=
  ⟨[.lsf (ns.map D.int)], fun _ => none, fun d _ => d = .bl true, fun _ _ _ _ => False, T, rfl, .cons (.lsf hS (dn_ints ns)) .nil, ⟨Ext.refl T, fun c x e => nomatch e⟩, ⟨ns, rfl, h63, hb, fun _ => rfl⟩,
    fun v d _ _ _ _ _ r e => by subst e; exact r.inv_bl, fun _ _ _ _ _ _ _ _ _ _ z => z⟩
end L31
open PySem PySem.W PySem.Calls PyProof.Rows
theorem PySem.Challenge.cw_ringshares_k31_whole_keepers_and_pending_holds : PySem.Challenge.rw_ringshares_k31_whole_keepers_and_pending.Holds := by
  w_on; o_law
  refine HandSHeadRun.head_any (r := OpenLaw.row PySem.Challenge.rw_ringshares_k31_whole_keepers_and_pending) (q := view (OpenLaw.row PySem.Challenge.rw_ringshares_k31_whole_keepers_and_pending).prog [85]) (H := L31.hkA) (ob := L31.obA) (M := 9000) (loose := L31.nmA) (d := HandSHeadRun.topDef (OpenLaw.row PySem.Challenge.rw_ringshares_k31_whole_keepers_and_pending).prog 85) (kwd := []) L31.obA_eq
    (by kernel_rfl) (fun s => by kernel_rfl) L31.runA (by kernel_rfl) (by kernel_rfl) (by kernel_rfl) (by rfl) (by first | assumption | decide +kernel) (by decide +kernel) ⟨rfl, rfl, rfl, rfl, rfl, by decide +kernel⟩ ?hw ?hc
  case hw => w_witness2
  case hc =>
    refine Att.attach_callB (l := PySem.Challenge.rw_ringshares_k31_whole_keepers_and_pending) (n := 63) rfl (by kernel_rfl) fun w s₀ s₁ mg mb fa o pm cd doc a vs ns G Y ho hd hcd hmg hobj hints hlen hbits hg => ?_
    obtain ⟨K, KX, c⟩ := Y
    obtain ⟨fd, hbnd, F⟩ := L31.facts (P := (PySem.Challenge.rw_ringshares_k31_whole_keepers_and_pending).prog) KX G.T.g c
    have e1 : (HandSHeadRun.topDef (OpenLaw.row PySem.Challenge.rw_ringshares_k31_whole_keepers_and_pending).prog 85).name = ("law" : PySem.Str) := by kernel_rfl
    rw [e1] at hmg
    have e2 := hmg.symm.trans (He.glo_ok KX G.T.g (c.1.fact 55 (f := .glo "law") rfl))
    cases e2
    exact DL.end_G KX G.T.g G.T.b G.T.builtins G.T.nolimit hg hobj hints (Nat.le_trans hlen (by decide)) ⟨rfl, by decide, by decide⟩ F hbnd fun T hS => L31.law_promise hS hlen hbits
